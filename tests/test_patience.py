import copy
import itertools
import unittest
from fractions import Fraction

from pactkeep.fractions import is_fraction
from pactkeep.once import calm
from pactkeep.pacts import hardest, kept, steady
from pactkeep.patience import by_itself, least_patience
from pactkeep.strays import holds
from tests.samples import (
    ALL_DEEDS, DILEMMA, LATE, LATE_OF_THREE, LOSSES, PENNIES, PENNIES_OF_THREE, SMALL, THREE, TIES, TOGETHER,
    all_kinds_told, lone_strays, meeting_of, pays_in, put, rows_by_product, spread_meeting, spread_rows,
)

BAD_ONE = ((1, 1), (1, 1))
# Straying from (0, 0) costs a hand something now; as a threat (1, 1) pays it more.
SWEET = ((2, 2), ((2, 2), (2, 0), (0, 2), (5, 5)))
# Pays from -9 to 9 lie 18 apart at most: so whether a plan holds can change only at fractions of such a lower.
TURNING = sorted({Fraction(upper, lower) for lower in range(1, 19) for upper in range(lower)})
BETWEEN = [(one + other) / 2 for one, other in zip(TURNING, TURNING[1:] + [Fraction(1)])]


def with_two_calm_rows(one, other):
    """The dilemma with a second bad row beside the first."""
    return ((3, 3), ((3, 3), (0, 5), (0, 0), (5, 0), (one, one), (0, 0), (0, 0), (0, 0), (other, other)))


CALM_ONES = [with_two_calm_rows(one, other) for one in range(4) for other in range(4)]
CALM_ONES += [spread_meeting(deeds, seed, 0, 6) for deeds in ((2, 2), (2, 3), (2, 2, 2)) for seed in range(120)]
CALM_ONES += [spread_meeting(deeds, 1) for deeds in ALL_DEEDS[:-3]] + [meeting_of((2, 1))]


def pair(number):
    return (number.numerator, number.denominator)


def is_steady(meeting, told, d):
    """Whether no hand gains by straying from the row, or from a threat, worked out from the pays."""
    upper, lower = pair(d)
    for row in told:
        for hand, deed in lone_strays(meeting, row):
            now = pays_in(meeting, put(row, hand, deed))[hand]
            after = pays_in(meeting, told[hand + 1])[hand]
            if (lower - upper) * now + upper * after > lower * pays_in(meeting, row)[hand]:
                return False
    return True


def least_by_trying(meeting, row, threats):
    """The least of the fractions from which on all hold, those between two of them standing for all between."""
    told = (row,) + threats
    least = None
    for turning, between in reversed(list(zip(TURNING, BETWEEN))):
        if not is_steady(meeting, told, between):
            return least
        least = pair(turning)
        if turning > 0 and not is_steady(meeting, told, turning):
            # It holds above the fraction and not with it: then no fraction is the least.
            raise AssertionError("no least fraction")
    return least


def many_asked():
    asked = [(DILEMMA, row, (one, other)) for row, one, other in itertools.product(rows_by_product((2, 2)), repeat=3)]
    asked += [(SWEET, row, (one, other)) for row, one, other in itertools.product(rows_by_product((2, 2)), repeat=3)]
    asked += [(LATE, row, ((1, 1), (0, 2))) for row in rows_by_product((2, 3))]
    asked += [(LATE, row, ((0, 1), (0, 2))) for row in rows_by_product((2, 3))]
    for seed, deeds in enumerate(ALL_DEEDS[:-2]):
        for meeting in (spread_meeting(deeds, seed), spread_meeting(deeds, seed, 0, 4)):
            told = spread_rows(meeting, len(deeds) + 1, seed + 5)
            asked.append((meeting, told[0], told[1:]))
            for threat in calm(meeting)[:2]:
                asked += [(meeting, row, (threat,) * len(deeds)) for row in rows_by_product(deeds)[:8]]
            if kept(meeting, (29, 30)):
                threats = hardest(meeting, (29, 30))
                asked += [(meeting, row, threats) for row in kept(meeting, (29, 30))]
    return asked


ASKED = many_asked()


class LeastPatienceTest(unittest.TestCase):
    def test_the_dilemma(self):
        self.assertEqual(least_patience(DILEMMA, (0, 0), BAD_ONE), (1, 2))
        self.assertEqual(least_patience(DILEMMA, (1, 1), BAD_ONE), (0, 1))
        self.assertIsNone(least_patience(DILEMMA, (0, 1), BAD_ONE))
        self.assertIsNone(least_patience(DILEMMA, (1, 0), BAD_ONE))

    def test_threats_that_are_not_kept(self):
        self.assertIsNone(least_patience(DILEMMA, (0, 0), ((0, 1), (1, 0))))
        self.assertIsNone(least_patience(DILEMMA, (1, 1), ((0, 0), (1, 1))))
        self.assertIsNone(least_patience(DILEMMA, (1, 1), ((1, 1), (0, 0))))

    def test_what_the_threats_themselves_ask_for(self):
        # (0, 2) as a threat asks for 1/3 by hand 0, (1, 1) for 1/2 by hand 1.
        self.assertEqual(least_patience(LATE, (0, 2), ((1, 1), (0, 2))), (1, 2))
        self.assertEqual(least_patience(LATE, (1, 1), ((1, 1), (0, 2))), (1, 2))

    def test_it_holds_with_little_patience_alone(self):
        # By deed 1 each hand has 0 now and 5 ever after: no more than 2 up to a patience of 2/5.
        plan = steady(SWEET, (0, 0), ((1, 1), (1, 1)))
        for patience in ((1, 30), (1, 3), (2, 5)):
            self.assertIs(holds(SWEET, plan, patience), True)
        for patience in ((12, 29), (1, 2), (29, 30)):
            self.assertIs(holds(SWEET, plan, patience), False)
        self.assertIsNone(least_patience(SWEET, (0, 0), ((1, 1), (1, 1))))

    def test_what_would_ask_for_a_patience_of_1(self):
        # 3 now and 1 ever after is more than 1, with whatever patience.
        meeting = ((2, 1), ((1, 0), (3, 0)))
        self.assertIsNone(least_patience(meeting, (0, 0), ((0, 0), (0, 0))))
        self.assertIsNone(least_patience(DILEMMA, (0, 0), ((0, 0), (0, 0))))
        # Nor is 3 for ever kept if the threat for hand 1, which never strays, is no threat for hand 0 to keep.
        self.assertIsNone(least_patience(meeting, (1, 0), ((1, 0), (0, 0))))
        self.assertEqual(least_patience(meeting, (1, 0), ((1, 0), (1, 0))), (0, 1))

    def test_the_greatest_that_can_be_needed(self):
        # 9 now and -9 ever after against -8.
        meeting = ((2, 2), ((-8, 0), (-9, 0), (9, 0), (-9, 0)))
        self.assertEqual(least_patience(meeting, (0, 0), ((0, 1), (0, 1))), (17, 18))
        self.assertEqual(least_patience(meeting, (0, 1), ((0, 1), (0, 1))), (0, 1))
        # And 9 now and 8 ever after against 8, and against 9.
        meeting = ((2, 2), ((8, 0), (8, 0), (9, 0), (8, 0)))
        self.assertIsNone(least_patience(meeting, (0, 0), ((0, 1), (0, 1))))
        self.assertEqual(least_patience(meeting, (1, 0), ((0, 1), (0, 1))), (0, 1))

    def test_three_hands(self):
        # Hand 0 wins 8 by (1, 0, 0) over 1, and has 10 less than that 9 ever after in (0, 0, 2).
        self.assertIsNone(least_patience(THREE, (0, 0, 0), ((0, 0, 2), (0, 0, 2), (0, 0, 2))))
        self.assertEqual(least_patience(THREE, (0, 0, 2), ((0, 0, 2), (1, 0, 0), (1, 0, 0))), (0, 1))
        # Hand 2 wins 4 by (0, 0, 2) over 3, and has 2 less than that 7 ever after in (1, 0, 0): never enough.
        self.assertIsNone(least_patience(THREE, (0, 0, 0), ((0, 0, 2), (0, 0, 2), (1, 0, 0))))

    def test_a_hand_with_one_deed_is_nothing_to_it(self):
        self.assertEqual(least_patience(SMALL, (0, 0), ((0, 0), (0, 0))), (0, 1))
        meeting = ((2, 1), ((4, 5), (3, -9)))
        self.assertEqual(least_patience(meeting, (0, 0), ((0, 0), (0, 0))), (0, 1))

    def test_against_trying(self):
        seen = {"none": 0, "nought": 0, "above": 0}
        for meeting, row, threats in ASKED:
            told = least_patience(meeting, row, threats)
            self.assertEqual(told, least_by_trying(meeting, row, threats), (meeting, row, threats))
            seen["none" if told is None else "nought" if told == (0, 1) else "above"] += 1
        self.assertGreater(min(seen.values()), 20, seen)

    def test_against_holds_of_steady(self):
        for meeting, row, threats in ASKED[::3]:
            told = least_patience(meeting, row, threats)
            plan = steady(meeting, row, threats)
            if told is None:
                for patience in ((18, 19), (29, 30), (996, 997), (10 ** 9 - 1, 10 ** 9)):
                    self.assertIs(holds(meeting, plan, patience), False)
                continue
            self.assertIs(is_fraction(told), True)
            least = Fraction(*told)
            self.assertTrue(0 <= least < 1)
            tries = [Fraction(1, 30), Fraction(1, 2), Fraction(29, 30), Fraction(1, 997), Fraction(996, 997)]
            tries += [least, least + (1 - least) / 1009, least - least / 1009, least / 2, (1 + least) / 2]
            for d in tries:
                if d > 0:
                    self.assertIs(holds(meeting, plan, pair(d)), d >= least, (meeting, row, threats, d))


class ByItselfTest(unittest.TestCase):
    def test_worked_out_by_hand(self):
        self.assertEqual(by_itself(DILEMMA, (0, 0)), (1, 2))
        self.assertEqual(by_itself(DILEMMA, (1, 1)), (0, 1))
        self.assertIsNone(by_itself(DILEMMA, (0, 1)))
        self.assertEqual(by_itself(SMALL, (0, 0)), (0, 1))
        # With (1, 1) as threats (0, 0) is not kept near 1, with itself it always is.
        self.assertEqual(calm(SWEET), ((0, 0), (1, 1)))
        self.assertEqual(by_itself(SWEET, (0, 0)), (0, 1))

    def test_no_calm_row(self):
        for meeting in (PENNIES, PENNIES_OF_THREE, LATE, LATE_OF_THREE):
            self.assertEqual(calm(meeting), ())
            for row in rows_by_product(meeting[0]):
                self.assertIsNone(by_itself(meeting, row))

    def test_the_least_over_several_calm_rows(self):
        # (1, 1) and (2, 2) are calm: 5 now against 3 for ever asks for 2/3 where 2 comes after, for 1/2 where 1 does.
        meeting = with_two_calm_rows(2, 1)
        self.assertEqual(calm(meeting), ((1, 1), (2, 2)))
        self.assertEqual(least_patience(meeting, (0, 0), ((1, 1), (1, 1))), (2, 3))
        self.assertEqual(least_patience(meeting, (0, 0), ((2, 2), (2, 2))), (1, 2))
        self.assertEqual(by_itself(meeting, (0, 0)), (1, 2))
        self.assertEqual(by_itself(with_two_calm_rows(1, 2), (0, 0)), (1, 2))
        # One of them alone asks for a patience of 1.
        self.assertEqual(by_itself(with_two_calm_rows(3, 2), (0, 0)), (2, 3))
        self.assertEqual(by_itself(with_two_calm_rows(2, 3), (0, 0)), (2, 3))
        self.assertIsNone(by_itself(with_two_calm_rows(3, 4), (0, 0)))

    def test_each_calm_row_is_kept_by_itself_with_every_patience(self):
        for meeting in (DILEMMA, SWEET, TIES, THREE, TOGETHER, LOSSES):
            for row in calm(meeting):
                self.assertEqual(by_itself(meeting, row), (0, 1))

    def test_the_least_over_the_calm_rows_as_threats_for_each_hand(self):
        seen = {"none": 0, "nought": 0, "above": 0}
        several = 0
        for meeting in CALM_ONES:
            for row in rows_by_product(meeting[0])[:6]:
                leasts = [least_by_trying(meeting, row, (threat,) * len(meeting[0])) for threat in calm(meeting)]
                leasts = [Fraction(*least) for least in leasts if least is not None]
                told = by_itself(meeting, row)
                self.assertEqual(told, pair(min(leasts)) if leasts else None)
                several += len(set(leasts)) > 1
                seen["none" if told is None else "nought" if told == (0, 1) else "above"] += 1
        self.assertGreater(min(seen.values()), 20, seen)
        self.assertGreater(several, 3)


class BeyondTest(unittest.TestCase):
    def test_what_lies_somewhat_beyond_is_not_refused(self):
        meeting = ((2, 2), ((0, 0), (-100, 1), (100, -100), (-100, -100)))
        self.assertEqual(least_patience(meeting, (0, 0), ((0, 1), (0, 1))), None)
        self.assertEqual(least_patience(meeting, (0, 0), ((1, 1), (1, 1))), (1, 2))
        meeting = spread_meeting((2, 1, 2, 2), 7, 0, 30)
        for row in rows_by_product(meeting[0]):
            told = by_itself(meeting, row)
            if told is not None:
                self.assertTrue(any(
                    told == (0, 1) or holds(meeting, steady(meeting, row, (threat,) * 4), told)
                    for threat in calm(meeting)
                ))


class ToldTest(unittest.TestCase):
    def test_kinds_told_again_and_nothing_changed(self):
        for meeting, row, threats in ASKED[::7]:
            given = (meeting, row, threats)
            before = copy.deepcopy(given)
            told = (least_patience(*given), by_itself(meeting, row))
            self.assertIs(all_kinds_told(told), True)
            self.assertEqual((least_patience(*given), by_itself(meeting, row)), told)
            self.assertEqual(given, before)
