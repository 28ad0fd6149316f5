import copy
import functools
import itertools
import unittest

from pactkeep.errors import NoPact, NoText, PactError
from pactkeep.once import calm, held_to, sure
from pactkeep.pacts import floors, hardest, kept, steady, why_not
from pactkeep.strays import gain, holds
from pactkeep.things import is_plan
from tests.samples import (
    ALL_DEEDS, DILEMMA, LATE, LATE_OF_THREE, LOSSES, PENNIES, PENNIES_OF_THREE, SMALL, THREE, TIES, TOGETHER,
    all_kinds_told, lone_strays, meeting_of, pays_in, put, rows_by_product, spread_meeting, spread_rows,
)

# Rising.
RISING = ((1, 30), (1, 10), (2, 7), (13, 27), (1, 2), (15, 29), (2, 3), (5, 6), (29, 30))
NONE_KEPT = [PENNIES, PENNIES_OF_THREE, ((2, 2, 2), (
    (3, 3, 2), (1, 0, 3), (1, 2, 2), (2, 1, 1), (0, 1, 3), (0, 0, 1), (0, 3, 1), (0, 1, 1),
))]
SOME = [DILEMMA, SMALL, LOSSES, THREE, TIES, TOGETHER, LATE, LATE_OF_THREE] + NONE_KEPT
# Pays from -9 to 9, and few different ones, so that there are many ties.
MANY = SOME + [spread_meeting(deeds, seed) for deeds in ALL_DEEDS[:-4] for seed in range(2)]
MANY += [spread_meeting(deeds, seed, 0, 3) for deeds in ALL_DEEDS[:-4] for seed in range(2)]
MANY += [spread_meeting((3, 3, 2), 5), spread_meeting((3, 3, 3), 6, 0, 5)]
# Asked for growing patience only: in some of them the floors fall.
GROWING = [spread_meeting(deeds, seed, 0, 6) for deeds in ((2, 2, 2), (3, 3), (2, 3, 2)) for seed in range(25)]
BEYOND = [spread_meeting(deeds, 7, -20, 20) for deeds in ((4, 2), (1, 5), (2, 4, 2), (2, 1, 2, 2))]


def gains_by(meeting, row, hand, deed, after, patience):
    """Whether the hand has more by the deed now and so much ever after than by the row, over and over."""
    upper, lower = patience
    now = pays_in(meeting, put(row, hand, deed))[hand]
    return (lower - upper) * now + upper * after > lower * pays_in(meeting, row)[hand]


def rows_that_hold(meeting, after, patience):
    return [
        row for row in rows_by_product(meeting[0])
        if not any(
            gains_by(meeting, row, hand, deed, after[hand], patience) for hand, deed in lone_strays(meeting, row)
        )
    ]


@functools.lru_cache(maxsize=None)
def kept_by_trying_all_threats(meeting, patience):
    rows = rows_by_product(meeting[0])
    found = set()
    by_after = {}
    for threats in itertools.product(rows, repeat=len(meeting[0])):
        after = tuple(pays_in(meeting, row)[hand] for hand, row in enumerate(threats))
        # Whether rows hold hangs on what the threats pay alone; so it is worked out once for all that pay the same.
        if after not in by_after:
            by_after[after] = set(rows_that_hold(meeting, after, patience))
        if by_after[after].issuperset(threats):
            found |= by_after[after]
    return tuple(sorted(found))


class SteadyTest(unittest.TestCase):
    def test_two_hands(self):
        self.assertEqual(steady(DILEMMA, (0, 0), ((1, 1), (0, 1))), (
            ((0, 0), (0, 2, 1, 0)),
            ((1, 1), (1, 1, 2, 1)),
            ((0, 1), (2, 2, 2, 1)),
        ))

    def test_three_hands(self):
        # Rows: 000, 001, 002, 100, 101, 102; hand 1 has one deed and never strays.
        self.assertEqual(steady(THREE, (1, 0, 2), ((0, 0, 2), (1, 0, 0), (0, 0, 0))), (
            ((1, 0, 2), (0, 0, 1, 3, 3, 0)),
            ((0, 0, 2), (3, 3, 1, 1, 1, 1)),
            ((1, 0, 0), (1, 2, 2, 2, 3, 3)),
            ((0, 0, 0), (3, 3, 3, 1, 3, 3)),
        ))

    def test_nobody_one_and_several_stray(self):
        for seed, deeds in enumerate(ALL_DEEDS):
            meeting = spread_meeting(deeds, seed)
            told = spread_rows(meeting, len(deeds) + 1, seed)
            plan = steady(meeting, told[0], told[1:])
            self.assertEqual(tuple(part[0] for part in plan), told)
            for state, (row, nexts) in enumerate(plan):
                for done, behind in zip(rows_by_product(deeds), nexts, strict=True):
                    strayed = [hand + 1 for hand in range(len(deeds)) if row[hand] != done[hand]]
                    self.assertEqual(behind, strayed[0] if len(strayed) == 1 else state)

    def test_it_is_a_plan(self):
        for meeting in MANY:
            told = spread_rows(meeting, len(meeting[0]) + 1, 3)
            self.assertIs(is_plan(steady(meeting, told[0], told[1:]), meeting), True)

    def test_the_same_row_as_threats(self):
        self.assertEqual(steady(SMALL, (0, 0), ((0, 0), (0, 0))), (((0, 0), (0,)), ((0, 0), (1,)), ((0, 0), (2,))))

    def test_four_hands(self):
        meeting = BEYOND[3]
        row = (0, 0, 0, 0)
        plan = steady(meeting, row, (row,) * 4)
        self.assertEqual(len(plan), 5)
        self.assertEqual(plan[0][1], (0, 4, 3, 0, 1, 0, 0, 0))
        self.assertEqual(plan[4][1], (4, 4, 3, 4, 1, 4, 4, 4))


class KeptTest(unittest.TestCase):
    def test_the_dilemma(self):
        # From 1/2 on 3 for ever is no less than 5 once and 1 ever after; 0 is always less than 1.
        for patience in ((1, 2), (15, 29), (2, 3), (29, 30)):
            self.assertEqual(kept(DILEMMA, patience), ((0, 0), (1, 1)))
        for patience in ((14, 29), (1, 3), (1, 30)):
            self.assertEqual(kept(DILEMMA, patience), ((1, 1),))

    def test_threats_that_are_kept_without_a_calm_row(self):
        # (1, 1) holds hand 0 to 1, (0, 2) holds hand 1 to 2; they keep one another from 1/2 on.
        self.assertEqual(calm(LATE), ())
        for patience in ((1, 2), (2, 3), (29, 30)):
            self.assertEqual(kept(LATE, patience), ((0, 2), (1, 1)))
        for patience in ((14, 29), (1, 3), (1, 30)):
            self.assertEqual(kept(LATE, patience), ())

    def test_none_is_kept(self):
        for meeting in NONE_KEPT:
            for patience in RISING:
                self.assertEqual(kept(meeting, patience), ())

    def test_where_all_are_paid_the_same_all_rows_are_kept(self):
        for deeds in ALL_DEEDS:
            self.assertEqual(kept(meeting_of(deeds, -2), (1, 30)), rows_by_product(deeds))

    def test_against_trying_all_threats(self):
        some = {2: 0, 3: 0}
        none = {2: 0, 3: 0}
        for meeting in MANY:
            hands = len(meeting[0])
            for patience in RISING[::2]:
                expected = kept_by_trying_all_threats(meeting, patience)
                self.assertEqual(kept(meeting, patience), expected, (meeting, patience))
                some[hands] += expected != ()
                none[hands] += expected == ()
        for hands in (2, 3):
            self.assertGreater(some[hands], 20)
            self.assertGreater(none[hands], 5)

    def test_against_holds_of_steady_with_all_threats(self):
        spread_ones = [spread_meeting((2, 2, 1), 3, 0, 3), spread_meeting((1, 2, 2), 8), spread_meeting((3, 2), 5)]
        for meeting in [DILEMMA, PENNIES, LOSSES, LATE, PENNIES_OF_THREE] + spread_ones:
            rows = rows_by_product(meeting[0])
            all_threats = list(itertools.product(rows, repeat=len(meeting[0])))
            for patience in ((14, 29), (1, 2), (29, 30)):
                expected = tuple(
                    row for row in rows
                    if any(holds(meeting, steady(meeting, row, threats), patience) for threats in all_threats)
                )
                self.assertEqual(kept(meeting, patience), expected)

    def test_three_hands_against_holds_of_steady(self):
        rows = rows_by_product((2, 2, 2))
        all_threats = list(itertools.product(rows, repeat=3))
        found = []
        for row in rows:
            if any(holds(LATE_OF_THREE, steady(LATE_OF_THREE, row, threats), (1, 2)) for threats in all_threats):
                found.append(row)
        self.assertEqual(len(found), 2)
        self.assertEqual(kept(LATE_OF_THREE, (1, 2)), tuple(found))
        self.assertEqual(kept(LATE_OF_THREE, (1, 5)), ())

    def test_each_calm_row_is_kept_with_any_patience(self):
        seen = 0
        for meeting in MANY + BEYOND:
            for patience in RISING:
                for row in calm(meeting):
                    self.assertIn(row, kept(meeting, patience))
                    seen += 1
        self.assertGreater(seen, 500)

    def test_with_more_patience_no_row_falls_away(self):
        grew = 0
        for meeting in MANY + GROWING:
            before = ()
            for patience in RISING:
                told = kept(meeting, patience)
                self.assertTrue(set(before) <= set(told), (meeting, patience))
                grew += before != () and before != told
                before = told
        self.assertGreater(grew, 20)


class FloorsTest(unittest.TestCase):
    def test_worked_out_by_hand(self):
        self.assertEqual(floors(DILEMMA, (1, 3)), (1, 1))
        self.assertEqual(floors(DILEMMA, (29, 30)), (1, 1))
        self.assertEqual(floors(LATE, (1, 2)), (1, 2))
        self.assertEqual(hardest(LATE, (1, 2)), ((1, 1), (0, 2)))
        self.assertEqual(hardest(DILEMMA, (1, 2)), ((1, 1), (1, 1)))
        self.assertEqual(floors(SMALL, (1, 2)), (0, 0))
        self.assertEqual(hardest(SMALL, (1, 2)), ((0, 0), (0, 0)))

    def test_the_least_pays_in_rows_that_are_kept(self):
        apart = 0
        for meeting in MANY + BEYOND:
            for patience in RISING[::2]:
                rows = kept(meeting, patience)
                if rows:
                    hands = range(len(meeting[0]))
                    expected = tuple(min(pays_in(meeting, row)[hand] for row in rows) for hand in hands)
                    told = floors(meeting, patience)
                    self.assertEqual(told, expected)
                    self.assertEqual([number.__class__ for number in told], [int] * len(hands))
                    apart += len(set(hardest(meeting, patience))) > 1
        self.assertGreater(apart, 30)

    def test_hardest_are_kept_and_pay_the_floor(self):
        for meeting in MANY + BEYOND:
            for patience in RISING[::2]:
                rows = kept(meeting, patience)
                if rows:
                    told = hardest(meeting, patience)
                    self.assertEqual(len(told), len(meeting[0]))
                    for hand, row in enumerate(told):
                        self.assertIn(row, rows)
                        self.assertEqual(pays_in(meeting, row)[hand], floors(meeting, patience)[hand])

    def test_by_hardest_each_kept_row_holds_and_no_other(self):
        for meeting in MANY + BEYOND:
            for patience in RISING[::2]:
                rows = kept(meeting, patience)
                if rows:
                    threats = hardest(meeting, patience)
                    for row in rows_by_product(meeting[0]):
                        plan = steady(meeting, row, threats)
                        self.assertIs(holds(meeting, plan, patience), row in rows)

    def test_with_more_patience_no_floor_is_higher(self):
        fell = 0
        for meeting in MANY + GROWING:
            before = None
            for patience in RISING:
                if kept(meeting, patience):
                    told = floors(meeting, patience)
                    if before is not None:
                        self.assertTrue(all(less <= more for less, more in zip(told, before)))
                        fell += told != before
                    before = told
        self.assertGreater(fell, 10)

    def test_nobody_is_held_below_what_it_can_be_held_down_to(self):
        seen = 0
        for meeting in MANY + BEYOND:
            for patience in RISING:
                if kept(meeting, patience):
                    for hand, number in enumerate(floors(meeting, patience)):
                        self.assertGreaterEqual(number, held_to(meeting, hand))
                        self.assertGreaterEqual(number, sure(meeting, hand))
                        seen += 1
        self.assertGreater(seen, 500)


class WhyNotTest(unittest.TestCase):
    def test_worked_out_by_hand(self):
        self.assertIsNone(why_not(DILEMMA, (0, 0), (1, 2)))
        self.assertIn(why_not(DILEMMA, (0, 0), (14, 29)), [(0, 1), (1, 1)])
        for patience in RISING:
            self.assertIsNone(why_not(DILEMMA, (1, 1), patience))
            self.assertEqual(why_not(DILEMMA, (0, 1), patience), (0, 1))
            self.assertEqual(why_not(DILEMMA, (1, 0), patience), (1, 1))
        # Hand 1 is paid 1 in (0, 1), and would have its floor of 2 by deed 2 at once.
        self.assertIn(why_not(LATE, (0, 1), (1, 2)), [(1, 0), (1, 2)])

    def test_the_told_hand_and_deed_do_give_more(self):
        kept_ones = 0
        others = 0
        for meeting in MANY + BEYOND:
            for patience in RISING[::2]:
                rows = kept(meeting, patience)
                for row in rows_by_product(meeting[0]) if rows else ():
                    told = why_not(meeting, row, patience)
                    self.assertIs(told is None, row in rows)
                    kept_ones += told is None
                    if told is not None:
                        others += 1
                        self.assertIn(told, lone_strays(meeting, row))
                        self.assertEqual([number.__class__ for number in told], [int, int])
                        after = floors(meeting, patience)[told[0]]
                        self.assertTrue(gains_by(meeting, row, told[0], told[1], after, patience))
        self.assertGreater(kept_ones, 300)
        self.assertGreater(others, 1000)

    def test_it_gains_in_the_plan_too(self):
        for meeting in SOME:
            if kept(meeting, (2, 3)):
                for row in rows_by_product(meeting[0]):
                    told = gain(meeting, steady(meeting, row, hardest(meeting, (2, 3))), (2, 3))
                    self.assertIs(told is None, why_not(meeting, row, (2, 3)) is None)

    def test_a_hand_with_one_deed_strays_never_however_low_it_is_paid(self):
        # Hand 1 is paid -9 in (1, 0), far below its floor of 5, yet hand 0 it is that strays.
        meeting = ((2, 1), ((4, 5), (3, -9)))
        for patience in RISING:
            self.assertEqual(kept(meeting, patience), ((0, 0),))
            self.assertEqual(floors(meeting, patience), (4, 5))
            self.assertEqual(why_not(meeting, (1, 0), patience), (0, 0))


class NoPactTest(unittest.TestCase):
    def is_refused(self, tell, *given):
        with self.assertRaises(NoPact) as caught:
            tell(*given)
        self.assertIsInstance(caught.exception, PactError)
        self.assertIsInstance(caught.exception, ValueError)
        self.assertNotIsInstance(caught.exception, NoText)

    def test_where_no_row_is_kept(self):
        for meeting in NONE_KEPT:
            for patience in RISING:
                self.is_refused(floors, meeting, patience)
                self.is_refused(hardest, meeting, patience)
                for row in rows_by_product(meeting[0]):
                    self.is_refused(why_not, meeting, row, patience)

    def test_where_there_is_too_little_patience(self):
        for meeting in (LATE, LATE_OF_THREE):
            row = (0,) * len(meeting[0])
            for tell, given in ((floors, ()), (hardest, ()), (why_not, (row,))):
                self.is_refused(tell, meeting, *given, (1, 5))
                tell(meeting, *given, (1, 2))

    def test_just_where_none_is_kept(self):
        refused = 0
        for meeting in MANY:
            for patience in RISING[::4]:
                if kept_by_trying_all_threats(meeting, patience) == ():
                    self.is_refused(floors, meeting, patience)
                    self.is_refused(hardest, meeting, patience)
                    self.is_refused(why_not, meeting, (0,) * len(meeting[0]), patience)
                    refused += 1
                else:
                    floors(meeting, patience)
                    hardest(meeting, patience)
        self.assertGreater(refused, 10)


class BeyondTest(unittest.TestCase):
    def test_meetings_and_patiences_somewhat_beyond_are_not_refused(self):
        for meeting in BEYOND[:3]:
            for patience in ((1, 100), (50, 101), (999, 1000)):
                self.assertEqual(kept(meeting, patience), kept_by_trying_all_threats(meeting, patience))
        self.assertEqual(kept(DILEMMA, (500, 1001)), ((1, 1),))
        self.assertEqual(kept(DILEMMA, (501, 1001)), ((0, 0), (1, 1)))


class ToldTest(unittest.TestCase):
    def test_kinds_told_again_and_nothing_changed(self):
        for meeting in SOME:
            row = (0,) * len(meeting[0])
            given = (meeting, (2, 3), row, (row,) * len(row))
            before = copy.deepcopy(given)
            told = []
            for _ in range(2):
                told.append((kept(meeting, given[1]), steady(meeting, row, given[3])))
                if told[-1][0]:
                    told[-1] += (floors(meeting, given[1]), hardest(meeting, given[1]))
                    told[-1] += (why_not(meeting, row, given[1]),)
            self.assertIs(all_kinds_told(told[0]), True)
            self.assertEqual(told[0], told[1])
            self.assertEqual(given, before)
