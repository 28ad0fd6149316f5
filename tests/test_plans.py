import copy
import unittest
from fractions import Fraction

from pactkeep.fractions import is_fraction
from pactkeep.plans import played, worth_of, worths
from tests.samples import (
    ALL_DEEDS, AWAY, DILEMMA, GRIM, LOSSES, MANY_PLANS, OF_THREE, PATIENCES, THREE, TIT, TURNS, all_kinds_told, behind,
    chain, meeting_of, number_of_row, pays_in, put, ring, rows_by_product, spread_meeting, spread_plan, spread_rows,
)


class PlansTest(unittest.TestCase):
    def are_fractions(self, told, hands):
        self.assertIs(told.__class__, tuple)
        self.assertEqual(len(told), hands)
        for worth in told:
            self.assertIs(is_fraction(worth), True, worth)


class WorthsTest(PlansTest):
    def test_one_state(self):
        for patience in PATIENCES:
            for row in rows_by_product((2, 2)):
                first, second = pays_in(DILEMMA, row)
                self.assertEqual(worths(DILEMMA, ((row, (0, 0, 0, 0)),), patience), (((first, 1), (second, 1)),))

    def test_grim(self):
        for patience in PATIENCES:
            self.assertEqual(worths(DILEMMA, GRIM, patience), (((3, 1), (3, 1)), ((1, 1), (1, 1))))

    def test_by_turns(self):
        # 0, 5, 0, 5 and so on weigh as 1 to d.
        self.assertEqual(worths(DILEMMA, TURNS, (1, 2)), (((5, 3), (10, 3)), ((10, 3), (5, 3))))
        self.assertEqual(worths(DILEMMA, TURNS, (2, 3)), (((2, 1), (3, 1)), ((3, 1), (2, 1))))
        self.assertEqual(worths(DILEMMA, TURNS, (29, 30)), (((145, 59), (150, 59)), ((150, 59), (145, 59))))

    def test_away_from_state_0_for_good(self):
        # With 1/2 states 1 and 2 pay hand 0 by turns 0 and 1, hand 1 by turns 5 and 1.
        self.assertEqual(worths(DILEMMA, AWAY, (1, 2)), (((8, 3), (11, 6)), ((1, 3), (11, 3)), ((2, 3), (7, 3))))

    def test_what_is_paid_now_counts_1_less_d(self):
        plan = chain(((1, 0), (0, 0)), (2, 2))
        self.assertEqual(worths(DILEMMA, plan, (1, 2)), (((4, 1), (3, 2)), ((3, 1), (3, 1))))
        self.assertEqual(worths(DILEMMA, plan, (1, 30)), (((74, 15), (1, 10)), ((3, 1), (3, 1))))
        self.assertEqual(worths(DILEMMA, plan, (29, 30)), (((46, 15), (29, 10)), ((3, 1), (3, 1))))

    def test_negative_worths(self):
        plan = chain(((0, 1), (1, 0), (0, 0)), (2, 2))
        self.assertEqual(
            worths(LOSSES, plan, (1, 2)), (((-19, 4), (-3, 2)), ((-1, 2), (-5, 1)), ((-3, 1), (-1, 1)))
        )
        self.assertEqual(worths(LOSSES, TURNS, (2, 3)), (((-23, 5), (-12, 5)), ((-12, 5), (-23, 5))))

    def test_three_hands(self):
        plan = ring(((1, 0, 0), (0, 0, 2)), (2, 1, 3))
        self.assertEqual(
            worths(THREE, plan, (1, 2)), (((17, 3), (-14, 3), (17, 3)), ((7, 3), (-1, 3), (19, 3)))
        )

    def test_state_by_state(self):
        for meeting, plan in MANY_PLANS:
            for patience in PATIENCES:
                told = worths(meeting, plan, patience)
                self.assertIs(told.__class__, tuple)
                self.assertEqual(len(told), len(plan))
                d = Fraction(*patience)
                for state, of_hands in enumerate(told):
                    self.are_fractions(of_hands, len(meeting[0]))
                    for hand, worth in enumerate(of_hands):
                        now = pays_in(meeting, plan[state][0])[hand]
                        later = Fraction(*told[behind(meeting, plan, state)][hand])
                        self.assertEqual(Fraction(*worth), (1 - d) * now + d * later)

    def test_what_is_done_meeting_by_meeting(self):
        # What comes behind the first 150 meetings counts less than 9 times d to the 150th.
        for meeting, plan in MANY_PLANS[:40]:
            for patience in ((1, 2), (2, 3)):
                d = Fraction(*patience)
                rows = played(meeting, plan, 150, ())
                for hand, worth in enumerate(worths(meeting, plan, patience)[0]):
                    done = sum((1 - d) * d ** time * pays_in(meeting, row)[hand] for time, row in enumerate(rows))
                    self.assertLessEqual(abs(Fraction(*worth) - done), 9 * d ** 150)

    def test_a_hand_that_is_always_paid_the_same(self):
        for number in (-9, -1, 0, 4, 9):
            meeting = (DILEMMA[0], tuple((pays[0], number) for pays in DILEMMA[1]))
            for plan in (GRIM, TURNS, TIT, AWAY, spread_plan(meeting, 8, 3), spread_plan(meeting, 20, 4)):
                for patience in PATIENCES:
                    for of_hands in worths(meeting, plan, patience):
                        self.assertEqual(of_hands[1], (number, 1))

    def test_rows_that_are_not_done_are_nothing_to_it(self):
        for patience in PATIENCES:
            told = worths(DILEMMA, GRIM, patience)
            for strayed in ((0, 0, 0, 0), (0, 0, 1, 1), (0, 1, 0, 0)):
                self.assertEqual(worths(DILEMMA, put(GRIM, 0, ((0, 0), strayed)), patience), told)

    def test_many_states(self):
        plan = ring(spread_rows(THREE, 60, 5), THREE[0])
        told = worths(THREE, plan, (29, 30))
        for state in range(60):
            for hand in range(3):
                now = pays_in(THREE, plan[state][0])[hand]
                later = Fraction(*told[(state + 1) % 60][hand])
                self.assertEqual(Fraction(*told[state][hand]), Fraction(1, 30) * now + Fraction(29, 30) * later)


class PlayedTest(PlansTest):
    def test_none_strays(self):
        self.assertEqual(played(DILEMMA, GRIM, 3, ()), ((0, 0), (0, 0), (0, 0)))
        self.assertEqual(played(DILEMMA, TURNS, 5, ()), ((0, 1), (1, 0), (0, 1), (1, 0), (0, 1)))
        self.assertEqual(played(DILEMMA, AWAY, 5, ()), ((1, 0), (0, 1), (1, 1), (0, 1), (1, 1)))
        self.assertEqual(played(THREE, OF_THREE, 2, ()), ((1, 0, 2), (1, 0, 2)))

    def test_no_meeting(self):
        self.assertEqual(played(DILEMMA, GRIM, 0, ()), ())
        self.assertEqual(played(DILEMMA, GRIM, 0, ((0, 0, 1),)), ())
        self.assertEqual(played(THREE, OF_THREE, 0, ()), ())

    def test_the_first_of_them(self):
        for meeting, plan in MANY_PLANS:
            rows = played(meeting, plan, 12, ())
            self.assertEqual(rows[0], plan[0][0])
            for many in range(13):
                self.assertEqual(played(meeting, plan, many, ()), rows[:many])

    def test_one_hand_strays(self):
        self.assertEqual(played(DILEMMA, GRIM, 4, ((0, 0, 1),)), ((1, 0), (1, 1), (1, 1), (1, 1)))
        self.assertEqual(played(DILEMMA, GRIM, 4, ((1, 1, 1),)), ((0, 0), (0, 1), (1, 1), (1, 1)))
        self.assertEqual(played(DILEMMA, GRIM, 4, ((3, 1, 1),)), ((0, 0), (0, 0), (0, 0), (0, 1)))
        self.assertEqual(played(DILEMMA, TIT, 4, ((1, 1, 1),)), ((0, 0), (0, 1), (1, 0), (0, 1)))

    def test_one_hand_strays_at_several_times(self):
        self.assertEqual(played(DILEMMA, TIT, 5, ((1, 1, 1), (3, 1, 0))), ((0, 0), (0, 1), (1, 0), (0, 0), (0, 0)))
        self.assertEqual(played(DILEMMA, GRIM, 3, ((2, 0, 0), (0, 0, 1))), ((1, 0), (1, 1), (0, 1)))

    def test_several_hands_at_one_time(self):
        # Behind (1, 1) and behind (1, 0) this plan goes on differently.
        plan = (((0, 0), (0, 0, 1, 2)), ((0, 1), (1, 1, 1, 1)), ((1, 0), (2, 2, 2, 2)))
        self.assertEqual(played(DILEMMA, plan, 3, ((0, 0, 1), (0, 1, 1))), ((1, 1), (1, 0), (1, 0)))
        self.assertEqual(played(DILEMMA, plan, 3, ((0, 1, 1), (0, 0, 1))), ((1, 1), (1, 0), (1, 0)))
        self.assertEqual(played(DILEMMA, plan, 3, ((0, 0, 1), (1, 1, 0))), ((1, 0), (0, 0), (0, 1)))

    def test_three_hands(self):
        self.assertEqual(
            played(THREE, OF_THREE, 4, ((0, 0, 0), (0, 2, 1), (2, 2, 2))),
            ((0, 0, 1), (0, 0, 0), (0, 0, 2), (1, 0, 2)),
        )

    def test_a_deed_that_the_plan_tells_anyway(self):
        self.assertEqual(played(DILEMMA, GRIM, 3, ((1, 0, 0), (2, 1, 0))), ((0, 0), (0, 0), (0, 0)))

    def test_times_that_lie_beyond(self):
        rows = played(DILEMMA, GRIM, 3, ())
        self.assertEqual(played(DILEMMA, GRIM, 3, ((3, 0, 1),)), rows)
        self.assertEqual(played(DILEMMA, GRIM, 3, ((3, 0, 1), (4, 1, 1), (10 ** 30, 0, 1))), rows)
        self.assertEqual(played(DILEMMA, GRIM, 3, ((9, 0, 1), (2, 0, 1))), ((0, 0), (0, 0), (1, 0)))

    def test_the_order_of_strays_is_nothing_to_it(self):
        for meeting, plan in MANY_PLANS:
            strays = self.some_strays(meeting)
            self.assertEqual(played(meeting, plan, 12, strays), played(meeting, plan, 12, strays[::-1]))

    def some_strays(self, meeting):
        return tuple(
            (time, hand, (time + hand) % many) for time in (1, 2, 4, 7) for hand, many in enumerate(meeting[0])
            if (time + hand) % 3
        )

    def test_step_by_step(self):
        for meeting, plan in MANY_PLANS:
            strays = self.some_strays(meeting)
            rows = played(meeting, plan, 12, strays)
            self.assertEqual(len(rows), 12)
            state = 0
            for time, row in enumerate(rows):
                expected = plan[state][0]
                for when, hand, deed in strays:
                    expected = put(expected, hand, deed) if when == time else expected
                self.assertEqual(row, expected)
                state = plan[state][1][number_of_row(meeting, row)]

    def test_many_meetings(self):
        strays = tuple((time, 0, 1) for time in range(0, 5000, 2))
        rows = played(DILEMMA, TURNS, 5000, strays)
        self.assertEqual(rows, ((1, 1), (1, 0)) * 2500)


class WorthOfTest(PlansTest):
    def test_no_rows_before(self):
        for patience in PATIENCES:
            self.assertEqual(worth_of(DILEMMA, (), ((0, 0),), patience), ((3, 1), (3, 1)))
            self.assertEqual(worth_of(DILEMMA, (), ((0, 0), (0, 0), (0, 0)), patience), ((3, 1), (3, 1)))
        self.assertEqual(worth_of(DILEMMA, (), ((0, 1), (1, 0)), (1, 2)), ((5, 3), (10, 3)))
        self.assertEqual(worth_of(DILEMMA, (), ((0, 0), (0, 1), (1, 1)), (1, 2)), ((13, 7), (23, 7)))

    def test_rows_before(self):
        self.assertEqual(worth_of(DILEMMA, ((1, 0),), ((1, 1),), (1, 2)), ((3, 1), (1, 2)))
        self.assertEqual(worth_of(DILEMMA, ((1, 0), (0, 0)), ((1, 1),), (1, 2)), ((7, 2), (1, 1)))
        self.assertEqual(worth_of(DILEMMA, ((0, 0),), ((0, 1), (1, 0)), (1, 2)), ((7, 3), (19, 6)))
        self.assertEqual(worth_of(DILEMMA, ((1, 0),), ((1, 1),), (29, 30)), ((17, 15), (29, 30)))

    def test_negative_worths(self):
        self.assertEqual(worth_of(LOSSES, ((0, 1),), ((1, 1),), (1, 2)), ((-8, 1), (-3, 1)))
        self.assertEqual(worth_of(LOSSES, (), ((0, 0), (1, 0)), (2, 3)), ((-1, 1), (-21, 5)))

    def test_three_hands(self):
        self.assertEqual(worth_of(THREE, ((0, 0, 2),), ((1, 0, 0),), (1, 2)), ((4, 1), (-5, 2), (6, 1)))

    def test_against_sums(self):
        for seed, deeds in enumerate(ALL_DEEDS):
            meeting = spread_meeting(deeds, seed)
            for before, many in ((0, 1), (0, 4), (1, 1), (3, 2), (7, 5)):
                rows = spread_rows(meeting, before, seed)
                over = spread_rows(meeting, many, seed + 50)
                for patience in PATIENCES:
                    told = worth_of(meeting, rows, over, patience)
                    self.are_fractions(told, len(deeds))
                    d = Fraction(*patience)
                    for hand, worth in enumerate(told):
                        first = sum(d ** k * pays_in(meeting, row)[hand] for k, row in enumerate(rows))
                        again = sum(d ** k * pays_in(meeting, row)[hand] for k, row in enumerate(over))
                        whole = (1 - d) * (first + d ** before * again / (1 - d ** many))
                        self.assertEqual(Fraction(*worth), whole)

    def test_other_tellings_of_the_same_rows(self):
        rows = ((1, 0), (0, 0))
        over = ((0, 1), (1, 1), (1, 0))
        for patience in PATIENCES:
            told = worth_of(DILEMMA, rows, over, patience)
            self.assertEqual(worth_of(DILEMMA, rows, over + over, patience), told)
            self.assertEqual(worth_of(DILEMMA, rows + over, over, patience), told)
            self.assertEqual(worth_of(DILEMMA, rows + over[:1], over[1:] + over[:1], patience), told)

    def test_along_what_is_played_to_where_it_goes_round(self):
        for meeting, plan in MANY_PLANS:
            came = [0]
            while behind(meeting, plan, came[-1]) not in came:
                came.append(behind(meeting, plan, came[-1]))
            first = came.index(behind(meeting, plan, came[-1]))
            rows = played(meeting, plan, len(came), ())
            for patience in PATIENCES:
                told = worth_of(meeting, rows[:first], rows[first:], patience)
                self.assertEqual(told, worths(meeting, plan, patience)[0])

    def test_long_rows(self):
        rows = spread_rows(DILEMMA, 400, 3)
        over = spread_rows(DILEMMA, 100, 4)
        d = Fraction(29, 30)
        told = worth_of(DILEMMA, rows, over, (29, 30))
        for hand, worth in enumerate(told):
            whole = Fraction(*worth_of(DILEMMA, (), over, (29, 30))[hand])
            for row in reversed(rows):
                whole = (1 - d) * pays_in(DILEMMA, row)[hand] + d * whole
            self.assertEqual(worth, (whole.numerator, whole.denominator))


class BeyondTest(PlansTest):
    def test_meetings_and_patiences_somewhat_beyond_are_not_refused(self):
        meeting = ((4, 1), ((20, -20), (0, 12), (100, 0), (-11, 1)))
        plan = ring(((3, 0), (2, 0)), (4, 1))
        self.assertEqual(worths(meeting, plan, (1, 100)), (((-1000, 101), (100, 101)), ((9989, 101), (1, 101))))
        self.assertEqual(played(meeting, plan, 3, ((1, 0, 1),)), ((3, 0), (1, 0), (3, 0)))
        self.assertEqual(worth_of(meeting, ((0, 0),), ((1, 0),), (31, 64)), ((165, 16), (-9, 2)))

    def test_four_hands(self):
        meeting = spread_meeting((2, 1, 2, 2), 3)
        plan = spread_plan(meeting, 40, 4)
        self.assertEqual(len(worths(meeting, plan, (1, 2))), 40)
        self.assertEqual(len(played(meeting, plan, 9, ((3, 3, 1),))), 9)
        self.assertEqual(worths(meeting_of((2, 1, 2, 2), 5), plan, (1, 2)), (((5, 1),) * 4,) * 40)


class ToldTest(PlansTest):
    def test_kinds_told_again_and_nothing_changed(self):
        for meeting, plan in MANY_PLANS[:20]:
            given = (meeting, plan, (29, 30), ((1, 0, 0), (2, 1, 0)))
            before = copy.deepcopy(given)
            told = []
            for _ in range(2):
                told.append((
                    worths(meeting, plan, given[2]), played(meeting, plan, 9, given[3]),
                    worth_of(meeting, (plan[0][0],), (plan[-1][0], plan[0][0]), given[2]),
                ))
            self.assertIs(all_kinds_told(told[0]), True)
            self.assertEqual(told[0], told[1])
            self.assertEqual(given, before)

    def test_no_truths_in_what_is_told(self):
        for of_hands in worths(DILEMMA, AWAY, (1, 2)):
            for upper, lower in of_hands:
                self.assertIs(upper.__class__, int)
                self.assertIs(lower.__class__, int)
