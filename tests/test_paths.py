import copy
import itertools
import unittest
from fractions import Fraction

from pactkeep.errors import NoPact, NoText, PactError
from pactkeep.pacts import hardest, kept, steady
from pactkeep.paths import alike, keeps_path, lean, on_path
from pactkeep.plans import played, worth_of, worths
from pactkeep.strays import holds
from pactkeep.things import is_plan
from tests.samples import (
    ALL_DEEDS, AWAY, DILEMMA, GRIM, LATE, LATE_OF_THREE, LOSSES, MANY_PLANS, OF_THREE, PATIENCES, PENNIES,
    PENNIES_OF_THREE, SMALL, THREE, TIT, TURNS, all_kinds_told, chain, lone_strays, pays_in, put, ring, rows_by_product,
    spread, spread_meeting, spread_plan, spread_rows,
)

BY_TURNS = ((0, 1), (1, 0))
SOME = [DILEMMA, SMALL, LOSSES, LATE, LATE_OF_THREE, THREE]
SOME += [spread_meeting(deeds, seed, 0, 6) for seed, deeds in enumerate(ALL_DEEDS)]
# Few states that differ, among many.
PLANS = [(meeting, plan) for meeting, plan in MANY_PLANS if len(plan) > 1]
PLANS += [
    (meeting, spread_plan(meeting, states, seed)) for states in (2, 4, 8, 9) for seed in range(12)
    for meeting in (spread_meeting((2, 1), seed), spread_meeting((1, 2), seed))
]


def reached(plan):
    """The states that one comes to, in no order."""
    found = {0}
    left = [0]
    while left:
        for behind in plan[left.pop()][1]:
            if behind not in found:
                found.add(behind)
                left.append(behind)
    return found


def told_apart(plan):
    """All pairs of states that tell other rows, now or behind some rows."""
    pairs = list(itertools.product(range(len(plan)), repeat=2))
    apart = {(one, other) for one, other in pairs if plan[one][0] != plan[other][0]}
    while True:
        more = {
            (one, other) for one, other in pairs
            if (one, other) not in apart and any(both in apart for both in zip(plan[one][1], plan[other][1]))
        }
        if not more:
            return apart
        apart |= more


def count_of_states_that_do_otherwise(plan):
    apart = told_apart(plan)
    chosen = []
    for state in reached(plan):
        if all((state, other) in apart for other in chosen):
            chosen.append(state)
    return len(chosen)


def do_the_same(one, other):
    """Walks both plans together, through all pairs of states that one can come to."""
    seen = {(0, 0)}
    left = [(0, 0)]
    while left:
        first, second = left.pop()
        if one[first][0] != other[second][0]:
            return False
        for both in zip(one[first][1], other[second][1], strict=True):
            if both not in seen:
                seen.add(both)
                left.append(both)
    return True


def swollen(plan, seed):
    """An alike plan with each state three times, in another order, and one leading to any of the three."""
    many = len(plan)
    order = [0] + sorted(range(1, 3 * many), key=lambda copied: spread(seed + copied, 3, 0, 10 ** 6)[2])
    places = {copied: place for place, copied in enumerate(order)}
    told = []
    for copied in order:
        row, nexts = plan[copied % many]
        which = spread(seed + copied, len(nexts), 0, 2)
        told.append((row, tuple(places[behind + many * k] for behind, k in zip(nexts, which))))
    return tuple(told)


class OnPathTest(unittest.TestCase):
    def test_two_hands(self):
        self.assertEqual(on_path(DILEMMA, BY_TURNS, ((1, 1), (0, 0))), (
            ((0, 1), (3, 1, 1, 2)),
            ((1, 0), (2, 0, 0, 3)),
            ((1, 1), (2, 2, 3, 2)),
            ((0, 0), (3, 3, 2, 3)),
        ))

    def test_three_hands(self):
        # Rows: 000, 001, 002, 100, 101, 102; hand 1 has one deed and never strays.
        self.assertEqual(on_path(THREE, ((0, 0, 0), (1, 0, 2)), ((0, 0, 2), (0, 0, 1), (1, 0, 0))), (
            ((0, 0, 0), (1, 4, 4, 2, 1, 1)),
            ((1, 0, 2), (0, 0, 2, 4, 4, 0)),
            ((0, 0, 2), (4, 4, 2, 2, 2, 2)),
            ((0, 0, 1), (4, 3, 4, 3, 2, 3)),
            ((1, 0, 0), (2, 4, 4, 4, 4, 4)),
        ))

    def test_one_row_is_steady(self):
        for seed, meeting in enumerate(SOME):
            told = spread_rows(meeting, len(meeting[0]) + 1, seed)
            self.assertEqual(on_path(meeting, told[:1], told[1:]), steady(meeting, told[0], told[1:]))

    def test_state_by_state(self):
        for seed, deeds in enumerate(ALL_DEEDS):
            meeting = spread_meeting(deeds, seed)
            for many in (1, 2, 3, 6, 7):
                told = spread_rows(meeting, many + len(deeds), seed + many)
                plan = on_path(meeting, told[:many], told[many:])
                self.assertEqual(tuple(part[0] for part in plan), told)
                for state, (row, nexts) in enumerate(plan):
                    onward = state if state >= many else 0 if state == many - 1 else state + 1
                    for done, behind in zip(rows_by_product(deeds), nexts, strict=True):
                        strayed = [hand for hand in range(len(deeds)) if row[hand] != done[hand]]
                        self.assertEqual(behind, many + strayed[0] if len(strayed) == 1 else onward)

    def test_the_path_is_done_over_and_over(self):
        for seed, meeting in enumerate(SOME):
            for many in (1, 5, 6):
                told = spread_rows(meeting, many + len(meeting[0]), seed + 1)
                plan = on_path(meeting, told[:many], told[many:])
                self.assertEqual(played(meeting, plan, 3 * many, ()), told[:many] * 3)
                for hand, deed in lone_strays(meeting, told[0]):
                    rows = (put(told[0], hand, deed),) + (told[many + hand],) * 4
                    self.assertEqual(played(meeting, plan, 5, ((0, hand, deed),)), rows)

    def test_six_rows_and_three_hands_are_nine_states_and_all_functions_but_is_plan_take_them(self):
        meeting = spread_meeting((2, 2, 2), 4, 0, 6)
        told = spread_rows(meeting, 9, 5)
        plan = on_path(meeting, told[:6], told[6:])
        self.assertEqual(len(plan), 9)
        self.assertIs(is_plan(plan, meeting), False)
        self.assertEqual(worths(meeting, plan, (1, 2))[0], worth_of(meeting, (), told[:6], (1, 2)))
        self.assertIn(holds(meeting, plan, (1, 2)), (True, False))
        self.assertIs(alike(plan, lean(plan)), True)


class KeepsPathTest(unittest.TestCase):
    def test_by_turns(self):
        # Paid 0 and 5 by turns a hand has 5d of 1 and d; by straying it has 1 for ever. They are the same at 1/4.
        for patience in ((1, 4), (8, 29), (1, 2), (29, 30)):
            self.assertIs(keeps_path(DILEMMA, BY_TURNS, patience), True)
            self.assertIs(keeps_path(DILEMMA, BY_TURNS[::-1], patience), True)
        for patience in ((7, 29), (1, 5), (1, 30)):
            self.assertIs(keeps_path(DILEMMA, BY_TURNS, patience), False)

    def test_of_one_row_it_is_whether_the_row_is_kept(self):
        seen = {True: 0, False: 0}
        for meeting in SOME:
            for patience in PATIENCES:
                rows = kept(meeting, patience)
                for row in rows_by_product(meeting[0]) if rows else ():
                    told = keeps_path(meeting, (row,), patience)
                    self.assertIs(told, row in rows)
                    seen[told] += 1
        self.assertGreater(min(seen.values()), 300)

    def test_the_same_row_several_times(self):
        for meeting in SOME[:10]:
            for patience in PATIENCES:
                rows = kept(meeting, patience)
                for row in rows_by_product(meeting[0]) if rows else ():
                    self.assertIs(keeps_path(meeting, (row,) * 6, patience), row in rows)

    def is_kept(self, meeting, path, patience):
        """Worked out from the pays: at each place no hand has more by a stray and its floor ever after."""
        d = Fraction(*patience)
        rows = kept(meeting, patience)
        floors = [min(pays_in(meeting, row)[hand] for row in rows) for hand in range(len(meeting[0]))]
        for place, row in enumerate(path):
            onward = worth_of(meeting, (), path[place:] + path[:place], patience)
            for hand, deed in lone_strays(meeting, row):
                now = pays_in(meeting, put(row, hand, deed))[hand]
                if (1 - d) * now + d * floors[hand] > Fraction(*onward[hand]):
                    return False
        return True

    def test_against_the_pays_and_against_holds_of_on_path(self):
        seen = {True: 0, False: 0}
        for seed, meeting in enumerate(SOME):
            for patience in PATIENCES:
                rows = kept(meeting, patience)
                if not rows:
                    continue
                paths = [spread_rows(meeting, many, seed + many) for many in (2, 3, 6, 8)]
                paths += [rows[:6], rows[:1] * 5 + rows[-1:], rows[-1:] + paths[0][:1], rows[-1:] * 5 + paths[0][:1]]
                for path in paths:
                    told = keeps_path(meeting, path, patience)
                    plan = on_path(meeting, path, hardest(meeting, patience))
                    self.assertIs(told, holds(meeting, plan, patience))
                    self.assertIs(told, self.is_kept(meeting, path, patience))
                    seen[told] += 1
        self.assertGreater(min(seen.values()), 200)

    def test_kept_rows_one_after_another_need_not_be_kept(self):
        # At (0, 0) a hand has 3 and d of 1 and d; by straying 5 less 4 d. The first is no less where dd is 1/2 or more.
        for patience, expected in (((1, 2), False), ((12, 17), False), ((5, 7), True), ((29, 30), True)):
            self.assertEqual(kept(DILEMMA, patience), ((0, 0), (1, 1)))
            self.assertIs(keeps_path(DILEMMA, ((0, 0), (1, 1)), patience), expected)
            self.assertIs(keeps_path(DILEMMA, ((1, 1), (0, 0)), patience), expected)

    def test_no_pact_where_no_row_is_kept(self):
        for meeting, patience in (
            (PENNIES, (29, 30)), (PENNIES, (1, 30)), (PENNIES_OF_THREE, (1, 2)), (LATE, (14, 29)),
            (LATE_OF_THREE, (1, 5)),
        ):
            row = (0,) * len(meeting[0])
            for path in ((row,), (row,) * 6, rows_by_product(meeting[0])[:4]):
                with self.assertRaises(NoPact) as caught:
                    keeps_path(meeting, path, patience)
                self.assertIsInstance(caught.exception, PactError)
                self.assertIsInstance(caught.exception, ValueError)
                self.assertNotIsInstance(caught.exception, NoText)
        self.assertIs(keeps_path(LATE, ((0, 2),), (1, 2)), True)


class AlikeTest(unittest.TestCase):
    def both_ways(self, one, other, expected):
        self.assertIs(alike(one, other), expected)
        self.assertIs(alike(other, one), expected)

    def test_other_numbers_of_states(self):
        pact = steady(DILEMMA, (0, 0), ((1, 1), (1, 1)))
        forgiving_both = (((0, 0), (0, 1, 1, 0)), ((1, 1), (1, 1, 1, 1)))
        self.both_ways(pact, forgiving_both, True)
        # Grim does otherwise if both stray at once.
        self.both_ways(pact, GRIM, False)
        self.both_ways(ring(((0, 0),), (2, 2)), ring(((0, 0),) * 8, (2, 2)), True)
        self.both_ways(ring(BY_TURNS, (2, 2)), ring(BY_TURNS * 4, (2, 2)), True)
        self.both_ways(ring(BY_TURNS, (2, 2)), ring(BY_TURNS[::-1], (2, 2)), False)
        self.both_ways(ring(BY_TURNS * 2, (2, 2)), ring(BY_TURNS + ((0, 1),), (2, 2)), False)
        self.both_ways(ring(((0, 0),) * 2, (2, 2)), ring(((0, 0),) * 3, (2, 2)), True)

    def test_states_that_are_never_come_to(self):
        for lone in (((1, 1), (0, 1, 2, 0)), ((0, 0), (2, 2, 2, 2)), ((0, 1), (0, 0, 0, 1))):
            self.both_ways(GRIM, GRIM + (lone,), True)
        self.both_ways(GRIM + (((0, 1), (2, 2, 2, 2)),), GRIM + (((1, 0), (0, 0, 0, 0)),), True)
        between = (((0, 0), (0, 2, 2, 2)), ((0, 1), (1, 1, 1, 1)), ((1, 1), (2, 2, 2, 2)))
        self.both_ways(GRIM, between, True)

    def test_plans_that_differ_only_after_several_deeds(self):
        for many in range(1, 9):
            same = ((0, 0),) * many
            one = chain(same + ((0, 0),), (2, 2))
            other = chain(same + ((0, 1),), (2, 2))
            self.both_ways(one, other, False)
            self.both_ways(other, chain(same + ((0, 1),), (2, 2)), True)
            self.both_ways(other, chain(same + ((0, 0), (0, 1)), (2, 2)), False)
            self.both_ways(one, ring(((0, 0),), (2, 2)), True)

    def test_plans_that_differ_only_after_strays_in_a_row(self):
        # Only (1, 1) at five meetings on end leads to the last state.
        def counting(last):
            return tuple(((0, 0), (0, 0, 0, state + 1)) for state in range(5)) + ((last, (5, 5, 5, 5)),)
        self.both_ways(counting((0, 0)), counting((1, 0)), False)
        self.both_ways(counting((0, 0)), ring(((0, 0),), (2, 2)), True)
        self.both_ways(counting((1, 0)), ring(((0, 0),), (2, 2)), False)
        self.both_ways(counting((1, 0)), swollen(counting((1, 0)), 3), True)

    def test_what_is_told_of_a_row_that_is_never_told_counts_too(self):
        self.both_ways(GRIM, put(GRIM, 0, ((0, 0), (0, 1, 1, 0))), False)
        self.both_ways(TIT, put(TIT, 3, ((1, 1), (0, 1, 2, 0))), False)

    def test_against_walking_both_together(self):
        seen = {True: 0, False: 0}
        for number, (meeting, plan) in enumerate(PLANS):
            others = [plan, swollen(plan, number), lean(plan), spread_plan(meeting, len(plan), number)]
            for state in range(len(plan)):
                row, nexts = plan[state]
                place = (state + number) % len(nexts)
                behind = (nexts[place] + 1) % len(plan)
                others.append(put(plan, state, (row, put(nexts, place, behind))))
                others.append(put(plan, state, (plan[behind][0], nexts)))
            for other in others:
                told = do_the_same(plan, other)
                self.both_ways(plan, other, told)
                seen[told] += 1
        self.assertGreater(min(seen.values()), 300)


class LeanTest(unittest.TestCase):
    def test_worked_out_by_hand(self):
        self.assertEqual(lean(GRIM), GRIM)
        self.assertEqual(lean(TIT), TIT)
        self.assertEqual(lean(TURNS), TURNS)
        self.assertEqual(lean(OF_THREE), OF_THREE)
        self.assertEqual(
            lean(steady(DILEMMA, (0, 0), ((1, 1), (1, 1)))), (((0, 0), (0, 1, 1, 0)), ((1, 1), (1, 1, 1, 1)))
        )
        self.assertEqual(lean(ring(((1, 0),) * 8, (2, 2))), (((1, 0), (0, 0, 0, 0)),))
        self.assertEqual(lean(ring(BY_TURNS * 4, (2, 2))), TURNS)
        self.assertEqual(lean(((((0, 0), (0,)),))), (((0, 0), (0,)),))

    def test_numbers_in_the_order_in_which_one_first_comes_to_them(self):
        # From state 0 one comes by nexts to 2 and then to 1, and only from there to 3.
        self.assertEqual(lean(AWAY), (((1, 0), (1, 1, 2, 1)), ((1, 1), (0, 0, 0, 2)), ((0, 1), (0, 1, 0, 0))))
        plan = (
            ((0, 0), (3, 0, 1, 3)), ((0, 1), (1, 1, 1, 2)), ((1, 0), (2, 2, 2, 2)), ((1, 1), (4, 3, 3, 3)),
            ((1, 0), (0, 0, 0, 0)),
        )
        # 0 leads to 3 and 1, 3 leads to 4, and 1 leads to 2.
        self.assertEqual(lean(plan), (
            ((0, 0), (1, 0, 2, 1)), ((1, 1), (3, 1, 1, 1)), ((0, 1), (2, 2, 2, 4)), ((1, 0), (0, 0, 0, 0)),
            ((1, 0), (4, 4, 4, 4)),
        ))

    def test_states_that_are_never_come_to_fall_away(self):
        plan = (((0, 0), (2, 2, 2, 2)), ((0, 1), (0, 1, 2, 0)), ((1, 1), (0, 0, 0, 0)))
        self.assertEqual(lean(plan), (((0, 0), (1, 1, 1, 1)), ((1, 1), (0, 0, 0, 0))))

    def test_states_that_differ_only_after_several_deeds_stay(self):
        for many in (1, 4, 8, 12):
            plan = chain(((0, 0),) * many + ((0, 1),), (2, 2))
            self.assertEqual(lean(plan), plan)

    def test_as_few_states_as_do_otherwise(self):
        fewer = 0
        for number, (_, plan) in enumerate(PLANS):
            many = count_of_states_that_do_otherwise(plan)
            for other in (plan, swollen(plan, number)):
                self.assertEqual(len(lean(other)), many)
                self.assertEqual(len(told_apart(lean(other))), many * (many - 1))
            fewer += many < len(reached(plan))
        self.assertGreater(fewer, 20)

    def test_the_numbers_rise_as_one_comes_to_them(self):
        for number, (_, plan) in enumerate(PLANS):
            seen = [0]
            told = lean(swollen(plan, number))
            for state, (_, nexts) in enumerate(told):
                self.assertIn(state, seen)
                for behind in nexts:
                    if behind not in seen:
                        self.assertEqual(behind, len(seen))
                        seen.append(behind)
            self.assertEqual(len(seen), len(told))

    def test_it_is_alike(self):
        for _, plan in PLANS:
            self.assertIs(do_the_same(plan, lean(plan)), True)

    def test_whatever_was_done_it_does_the_same(self):
        for number, (meeting, plan) in enumerate(PLANS[::4]):
            whole = swollen(plan, number)
            strays = tuple(
                (time, hand, (time * number + hand) % many) for time in (0, 1, 2, 5, 8)
                for hand, many in enumerate(meeting[0]) if (time + hand + number) % 3
            )
            self.assertEqual(played(meeting, lean(whole), 14, strays), played(meeting, plan, 14, strays))

    def test_of_alike_plans_it_is_the_same(self):
        for number, (_, plan) in enumerate(PLANS):
            self.assertEqual(lean(swollen(plan, number)), lean(plan))
            self.assertEqual(lean(plan + plan[:1]), lean(plan))
            self.assertEqual(lean(lean(plan)), lean(plan))

    def test_of_plans_that_are_not_alike_it_is_not(self):
        for meeting, plan in PLANS:
            other = spread_plan(meeting, len(plan), 77)
            self.assertIs(lean(plan) == lean(other), do_the_same(plan, other))

    def test_it_has_the_same_worths_at_the_beginning(self):
        for number, (meeting, plan) in enumerate(PLANS):
            for patience in PATIENCES[:3]:
                told = worths(meeting, plan, patience)[0]
                self.assertEqual(worths(meeting, lean(plan), patience)[0], told)
                self.assertEqual(worths(meeting, lean(swollen(plan, number)), patience)[0], told)

    def test_a_plan_that_holds_still_does(self):
        for meeting in SOME:
            for patience in ((1, 2), (29, 30)):
                for row in kept(meeting, patience):
                    plan = steady(meeting, row, hardest(meeting, patience))
                    self.assertIs(holds(meeting, lean(plan), patience), True)

    def test_many_states(self):
        plan = spread_plan(DILEMMA, 60, 9)
        self.assertEqual(len(lean(plan)), count_of_states_that_do_otherwise(plan))
        self.assertEqual(lean(ring(BY_TURNS * 60, (2, 2))), TURNS)


class ToldTest(unittest.TestCase):
    def test_kinds_told_again_and_nothing_changed(self):
        for number, (meeting, plan) in enumerate(PLANS[::5]):
            rows = spread_rows(meeting, 6 + len(meeting[0]), number)
            given = (meeting, plan, rows[:6], rows[6:])
            before = copy.deepcopy(given)
            told = []
            for _ in range(2):
                told.append((on_path(meeting, given[2], given[3]), lean(plan), alike(plan, swollen(plan, 1))))
                if kept(meeting, (2, 3)):
                    told[-1] += (keeps_path(meeting, given[2], (2, 3)),)
            self.assertIs(all_kinds_told(told[0]), True)
            self.assertEqual(told[0], told[1])
            self.assertEqual(given, before)
            self.assertTrue(all(behind.__class__ is int for _, nexts in lean(plan) for behind in nexts))
