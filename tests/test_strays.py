import copy
import itertools
import unittest
from fractions import Fraction

from pactkeep.fractions import is_fraction
from pactkeep.plans import played, worth_of, worths
from pactkeep.strays import best_strays, best_worths, gain, holds
from tests.samples import (
    AWAY, DILEMMA, GRIM, LOSSES, MANY_PLANS, OF_THREE, PATIENCES, SMALL, THREE, TIT, TURNS, all_kinds_told, chain,
    lone_strays, number_of_row, pays_in, put, ring, spread_meeting, spread_plan,
)

# Few different pays, so that there are many ties.
TIED = [
    (meeting, spread_plan(meeting, states, seed)) for seed in range(12) for states in (1, 2, 4)
    for meeting in (spread_meeting((2, 2), seed, 0, 1), spread_meeting((2, 1, 2), seed, 0, 1))
]
PAIRS = MANY_PLANS + TIED
# By deed 1, done twice, hand 0 comes to where it is paid 9; done once, it leads to nothing.
LONG_WAY = ((2, 2), ((1, 0), (9, 0), (0, 0), (9, 0)))
LONG_PLAN = (((0, 0), (0, 0, 1, 1)), ((0, 0), (0, 0, 2, 2)), ((0, 1), (2, 2, 2, 2)))
TOGETHER_ONLY = ((2, 2), ((1, 1), (0, 0), (0, 0), (2, 2)))


def worth_by_deed(meeting, plan, state, hand, deed, own, d):
    """What the hand has by the deed now, when its worth in each state is its own afterwards."""
    row = put(plan[state][0], hand, deed)
    later = own[plan[state][1][number_of_row(meeting, row)]]
    return (1 - d) * pays_in(meeting, row)[hand] + d * later


def as_numbers(told):
    return [Fraction(*worth) for worth in told]


def own_worths(meeting, plan, hand, patience):
    return as_numbers([of_hands[hand] for of_hands in worths(meeting, plan, patience)])


def stray_by_stray(meeting, plan, patience):
    """Each state, hand and deed, with how much more the hand has by it."""
    d = Fraction(*patience)
    owns = [own_worths(meeting, plan, hand, patience) for hand in range(len(meeting[0]))]
    told = []
    for state, part in enumerate(plan):
        for hand, deed in lone_strays(meeting, part[0]):
            more = worth_by_deed(meeting, plan, state, hand, deed, owns[hand], d) - owns[hand][state]
            told.append(((state, hand, deed), more))
    return told


def all_gains(meeting, plan, patience):
    return [stray for stray, more in stray_by_stray(meeting, plan, patience) if more > 0]


def always_doing(plan, hand, deeds):
    return tuple((put(part[0], hand, deed), part[1]) for part, deed in zip(plan, deeds))


class GainTest(unittest.TestCase):
    def told_is_one_of(self, meeting, plan, patience, gains):
        told = gain(meeting, plan, patience)
        if gains:
            self.assertIn(told, gains)
        else:
            self.assertIsNone(told)
        self.assertIs(holds(meeting, plan, patience), not gains)

    def test_grim_is_kept_from_1_2_on_and_a_tie_is_no_gain(self):
        for patience in ((1, 2), (15, 29), (2, 3), (29, 30)):
            self.told_is_one_of(DILEMMA, GRIM, patience, [])
        for patience in ((14, 29), (1, 3), (1, 30)):
            self.told_is_one_of(DILEMMA, GRIM, patience, [(0, 0, 1), (0, 1, 1)])

    def test_whatever_is_done_it_goes_on_the_same(self):
        for patience in PATIENCES:
            self.told_is_one_of(DILEMMA, TURNS, patience, [(0, 0, 1), (1, 1, 1)])
            self.told_is_one_of(DILEMMA, ring(((1, 1),), (2, 2)), patience, [])
            self.told_is_one_of(DILEMMA, ring(((0, 1),), (2, 2)), patience, [(0, 0, 1)])

    def test_states_that_are_never_come_to_count(self):
        plan = (((1, 1), (0, 0, 0, 0)), ((1, 0), (1, 1, 1, 1)))
        for patience in PATIENCES:
            self.told_is_one_of(DILEMMA, plan, patience, [(1, 1, 1)])

    def test_threats_that_are_not_kept_themselves(self):
        # Behind a stray hand 0 is to do deed 0 for ever, and is paid 0 where 1 could be had.
        plan = (((0, 0), (0, 1, 1, 1)), ((0, 1), (1, 1, 1, 1)))
        self.told_is_one_of(DILEMMA, plan, (29, 30), [(0, 1, 1), (1, 0, 1)])

    def test_straying_together_is_none(self):
        for patience in PATIENCES:
            self.told_is_one_of(TOGETHER_ONLY, ring(((0, 0),), (2, 2)), patience, [])
            self.told_is_one_of(TOGETHER_ONLY, ring(((1, 1),), (2, 2)), patience, [])
            self.told_is_one_of(TOGETHER_ONLY, ring(((0, 1),), (2, 2)), patience, [(0, 0, 1), (0, 1, 0)])

    def test_a_stray_only_once_and_then_as_the_plan_tells(self):
        for patience in ((1, 4), (1, 2), (29, 30)):
            self.told_is_one_of(LONG_WAY, LONG_PLAN, patience, [(1, 0, 1)])
        self.told_is_one_of(LONG_WAY, LONG_PLAN, (1, 9), [])
        self.told_is_one_of(LONG_WAY, LONG_PLAN, (1, 10), [])

    def test_a_hand_with_one_deed_never_strays(self):
        for patience in PATIENCES:
            self.told_is_one_of(SMALL, (((0, 0), (0,)),), patience, [])

    def test_three_hands(self):
        self.assertEqual(
            all_gains(THREE, OF_THREE, (1, 2)), [(0, 0, 0), (0, 2, 0), (0, 2, 1), (1, 0, 1), (1, 2, 2)]
        )
        self.told_is_one_of(THREE, OF_THREE, (1, 2), all_gains(THREE, OF_THREE, (1, 2)))
        self.told_is_one_of(THREE, ring(((0, 0, 2),), (2, 1, 3)), (1, 2), [])
        self.told_is_one_of(THREE, ring(((1, 0, 2),), (2, 1, 3)), (1, 2), [(0, 0, 0), (0, 2, 0), (0, 2, 1)])

    def test_deed_by_deed_from_the_worths(self):
        seen = {True: 0, False: 0}
        for meeting, plan in PAIRS:
            for patience in PATIENCES[:4]:
                self.told_is_one_of(meeting, plan, patience, all_gains(meeting, plan, patience))
                seen[holds(meeting, plan, patience)] += 1
        self.assertGreater(seen[True], 60)
        self.assertGreater(seen[False], 300)

    def test_no_gain_also_where_plans_hang_on_a_tie(self):
        seen = 0
        for meeting, plan in TIED:
            for patience in PATIENCES:
                most = max((more for _, more in stray_by_stray(meeting, plan, patience)), default=-1)
                if most == 0:
                    self.assertIsNone(gain(meeting, plan, patience))
                    self.assertIs(holds(meeting, plan, patience), True)
                    seen += 1
        self.assertGreater(seen, 30)


class BestTest(unittest.TestCase):
    def both_told(self, meeting, plan, hand, patience, expected, strays):
        self.assertEqual(best_worths(meeting, plan, hand, patience), expected)
        told = best_strays(meeting, plan, hand, patience)
        self.assertIs(told.__class__, tuple)
        self.assertIn(told, strays)

    def test_grim(self):
        for hand in (0, 1):
            self.both_told(DILEMMA, GRIM, hand, (1, 2), ((3, 1), (1, 1)), [(0, 1), (1, 1)])
            self.both_told(DILEMMA, GRIM, hand, (1, 3), ((11, 3), (1, 1)), [(1, 1)])
            self.both_told(DILEMMA, GRIM, hand, (29, 30), ((3, 1), (1, 1)), [(0, 1)])

    def test_always_doing_other_than_the_plan_tells(self):
        for patience in PATIENCES:
            self.both_told(DILEMMA, ring(((0, 0),), (2, 2)), 0, patience, ((5, 1),), [(1,)])
            self.both_told(DILEMMA, ring(((0, 1),), (2, 2)), 1, patience, ((5, 1),), [(1,)])
            self.both_told(DILEMMA, ring(((1, 0),), (2, 2)), 1, patience, ((1, 1),), [(1,)])

    def test_what_comes_only_by_straying_twice(self):
        any_last = [(0,), (1,)]
        self.both_told(
            LONG_WAY, LONG_PLAN, 0, (1, 4), ((1, 1), (9, 4), (9, 1)), [(0, 1) + last for last in any_last]
        )
        self.both_told(
            LONG_WAY, LONG_PLAN, 0, (1, 2), ((9, 4), (9, 2), (9, 1)), [(1, 1) + last for last in any_last]
        )
        tied = [(deed, 1) + last for deed in (0, 1) for last in any_last]
        self.both_told(LONG_WAY, LONG_PLAN, 0, (1, 3), ((1, 1), (3, 1), (9, 1)), tied)

    def test_three_hands(self):
        self.both_told(THREE, OF_THREE, 0, (1, 2), ((7, 3), (17, 3)), [(0, 1)])
        self.both_told(THREE, OF_THREE, 1, (1, 2), ((0, 1), (2, 1)), [(0, 0)])
        self.both_told(THREE, OF_THREE, 2, (1, 2), ((5, 1), (6, 1)), [(0, 2)])

    def test_negative_worths(self):
        # Hand 0 can leave (0, 1), paid -9, for (1, 1), paid -7, and state 0 is left whatever it does.
        self.both_told(LOSSES, chain(((0, 0), (0, 1)), (2, 2)), 0, (1, 2), ((-5, 2), (-7, 1)), [(1, 1)])

    def test_the_most_over_the_deeds_state_by_state(self):
        for meeting, plan in PAIRS:
            for patience in PATIENCES[:4]:
                d = Fraction(*patience)
                for hand, many in enumerate(meeting[0]):
                    told = best_worths(meeting, plan, hand, patience)
                    self.assertIs(told.__class__, tuple)
                    self.assertTrue(all(is_fraction(worth) for worth in told), told)
                    best = as_numbers(told)
                    most = [
                        max(worth_by_deed(meeting, plan, state, hand, deed, best, d) for deed in range(many))
                        for state in range(len(plan))
                    ]
                    self.assertEqual(best, most)

    def test_best_strays_always_done_have_just_this(self):
        for meeting, plan in PAIRS:
            for patience in PATIENCES[:4]:
                for hand, many in enumerate(meeting[0]):
                    deeds = best_strays(meeting, plan, hand, patience)
                    self.assertEqual(len(deeds), len(plan))
                    self.assertTrue(all(deed.__class__ is int and 0 <= deed < many for deed in deeds), deeds)
                    own = own_worths(meeting, always_doing(plan, hand, deeds), hand, patience)
                    self.assertEqual(as_numbers(best_worths(meeting, plan, hand, patience)), own)

    def test_against_all_ways_of_always_straying(self):
        for meeting, plan in [pair for pair in PAIRS if len(pair[1]) <= 4][::2]:
            for hand, many in enumerate(meeting[0]):
                ways = list(itertools.product(range(many), repeat=len(plan)))
                owns = [own_worths(meeting, always_doing(plan, hand, way), hand, (2, 3)) for way in ways]
                best = [max(own[state] for own in owns) for state in range(len(plan))]
                self.assertEqual(as_numbers(best_worths(meeting, plan, hand, (2, 3))), best)

    def test_no_first_deeds_whatsoever_have_more(self):
        for meeting, plan in MANY_PLANS[:60:3]:
            for hand, many in enumerate(meeting[0]):
                best = Fraction(*best_worths(meeting, plan, hand, (1, 2))[0])
                for deeds in itertools.product(range(many), repeat=4):
                    strays = tuple((time, hand, deed) for time, deed in enumerate(deeds))
                    rows = played(meeting, plan, 4 + 2 * len(plan), strays)
                    # What comes behind can be no more than 9.
                    least = Fraction(*worth_of(meeting, rows, rows[-1:], (1, 2))[hand])
                    self.assertLessEqual(least, best + 18 * Fraction(1, 2) ** len(rows))

    def test_the_best_is_the_worth_of_every_hand_just_where_there_is_no_gain(self):
        for meeting, plan in PAIRS:
            for patience in PATIENCES[:4]:
                by_plan = worths(meeting, plan, patience)
                same = True
                for hand in range(len(meeting[0])):
                    own = tuple(of_hands[hand] for of_hands in by_plan)
                    best = best_worths(meeting, plan, hand, patience)
                    self.assertTrue(all(more >= less for more, less in zip(as_numbers(best), as_numbers(own))))
                    same = same and best == own
                self.assertIs(gain(meeting, plan, patience) is None, same)


class BeyondTest(unittest.TestCase):
    def test_many_states_and_four_hands_are_not_refused(self):
        meeting = spread_meeting((2, 4, 1, 2), 3, -20, 20)
        plan = spread_plan(meeting, 30, 4)
        patience = (50, 101)
        gains = all_gains(meeting, plan, patience)
        self.assertIn(gain(meeting, plan, patience), gains)
        for hand, many in enumerate(meeting[0]):
            best = as_numbers(best_worths(meeting, plan, hand, patience))
            for state in range(30):
                by_deeds = [
                    worth_by_deed(meeting, plan, state, hand, deed, best, Fraction(50, 101)) for deed in range(many)
                ]
                self.assertEqual(best[state], max(by_deeds))
            deeds = best_strays(meeting, plan, hand, patience)
            self.assertEqual(own_worths(meeting, always_doing(plan, hand, deeds), hand, patience), best)


class ToldTest(unittest.TestCase):
    def test_kinds_told_again_and_nothing_changed(self):
        for meeting, plan in MANY_PLANS[:20] + [(DILEMMA, TIT), (LOSSES, AWAY)]:
            given = (meeting, plan, (13, 27))
            before = copy.deepcopy(given)
            told = []
            for _ in range(2):
                told.append((gain(*given), holds(*given)) + tuple(
                    tell(meeting, plan, hand, given[2]) for tell in (best_worths, best_strays)
                    for hand in range(len(meeting[0]))
                ))
            self.assertIs(all_kinds_told(told[0]), True)
            self.assertEqual(told[0], told[1])
            self.assertEqual(given, before)

    def test_no_truths_in_the_triple(self):
        self.assertEqual([part.__class__ for part in gain(DILEMMA, GRIM, (1, 3))], [int, int, int])
