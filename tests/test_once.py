import copy
import unittest

from pactkeep.once import best_deeds, calm, held_to, paid, sure
from tests.samples import (
    ALL_DEEDS, DILEMMA, PENNIES, PENNIES_OF_THREE, SMALL, THREE, TIES, TOGETHER, all_kinds_told, meeting_of, put,
    rows_by_product, spread_meeting,
)

SOME = [DILEMMA, SMALL, THREE, PENNIES, PENNIES_OF_THREE, TIES, TOGETHER]
# Pays from -9 to 9, and few different ones, so that there are many ties.
SPREAD = [spread_meeting(deeds, seed) for deeds in ALL_DEEDS for seed in range(3)]
SPREAD += [spread_meeting(deeds, seed, -1, 1) for deeds in ALL_DEEDS for seed in range(3)]
MANY = SOME + SPREAD
BEYOND = [spread_meeting(deeds, 7, -20, 20) for deeds in ((4, 2), (1, 5), (2, 4, 2), (2, 1, 2, 2))]


def pays_by_rows(meeting):
    return dict(zip(rows_by_product(meeting[0]), meeting[1]))


def others_deeds(meeting, hand):
    return rows_by_product(put(meeting[0], hand, 1))


class OnceTest(unittest.TestCase):
    def told_of_all(self, tell, meeting, expected):
        hands = range(len(meeting[0]))
        self.assertEqual([tell(meeting, hand) for hand in hands], expected, meeting)


class PaidTest(OnceTest):
    def test_two_hands(self):
        self.assertEqual(paid(DILEMMA, (0, 0)), (3, 3))
        self.assertEqual(paid(DILEMMA, (0, 1)), (0, 5))
        self.assertEqual(paid(DILEMMA, (1, 0)), (5, 0))
        self.assertEqual(paid(DILEMMA, (1, 1)), (1, 1))
        self.assertEqual(paid(TIES, (2, 0)), (4, 2))
        self.assertEqual(paid(TIES, (1, 1)), (5, 0))

    def test_three_hands(self):
        self.assertEqual(paid(THREE, (0, 0, 2)), (-1, 4, 7))
        self.assertEqual(paid(THREE, (1, 0, 0)), (9, -9, 5))
        self.assertEqual(paid(TOGETHER, (0, 1, 1)), (-2, 3, 1))

    def test_every_row(self):
        for meeting in MANY + BEYOND:
            for row, pays in pays_by_rows(meeting).items():
                self.assertEqual(paid(meeting, row), pays)


class BestDeedsTest(OnceTest):
    def test_two_hands(self):
        for row in rows_by_product((2, 2)):
            self.assertEqual(best_deeds(DILEMMA, 0, row), (1,))
            self.assertEqual(best_deeds(DILEMMA, 1, row), (1,))
        self.assertEqual(best_deeds(PENNIES, 0, (1, 0)), (0,))
        self.assertEqual(best_deeds(PENNIES, 1, (1, 0)), (0,))
        self.assertEqual(best_deeds(PENNIES, 1, (0, 0)), (1,))

    def test_three_hands(self):
        self.assertEqual(best_deeds(THREE, 0, (0, 0, 0)), (1,))
        self.assertEqual(best_deeds(THREE, 0, (1, 0, 2)), (0,))
        self.assertEqual(best_deeds(THREE, 1, (1, 0, 2)), (0,))
        self.assertEqual(best_deeds(THREE, 2, (0, 0, 1)), (2,))
        self.assertEqual(best_deeds(THREE, 2, (1, 0, 2)), (0,))

    def test_ties(self):
        for deed in (0, 1, 2):
            self.assertEqual(best_deeds(TIES, 0, (deed, 0)), (0, 2))
            self.assertEqual(best_deeds(TIES, 0, (deed, 1)), (1, 2))
        for deed in (0, 1):
            self.assertEqual(best_deeds(TIES, 1, (0, deed)), (0, 1))
            self.assertEqual(best_deeds(TIES, 1, (1, deed)), (0,))
            self.assertEqual(best_deeds(TIES, 1, (2, deed)), (0, 1))
        self.assertEqual(best_deeds(meeting_of((1, 3, 2), -4), 1, (0, 2, 1)), (0, 1, 2))

    def test_what_the_hand_itself_does_in_the_row_is_nothing_to_it(self):
        for meeting in MANY:
            for row in rows_by_product(meeting[0]):
                for hand, many in enumerate(meeting[0]):
                    told = {best_deeds(meeting, hand, put(row, hand, deed)) for deed in range(many)}
                    self.assertEqual(len(told), 1)

    def test_no_other_deed_pays_more_and_each_that_is_not_told_pays_less(self):
        for meeting in MANY + BEYOND:
            pays = pays_by_rows(meeting)
            for row in pays:
                for hand, many in enumerate(meeting[0]):
                    by_deed = [pays[put(row, hand, deed)][hand] for deed in range(many)]
                    best = tuple(deed for deed in range(many) if not any(by_deed[deed] < pay for pay in by_deed))
                    self.assertEqual(best_deeds(meeting, hand, row), best)


class CalmTest(OnceTest):
    def test_worked_out_by_hand(self):
        self.assertEqual(calm(DILEMMA), ((1, 1),))
        self.assertEqual(calm(SMALL), ((0, 0),))
        self.assertEqual(calm(TIES), ((0, 0), (2, 0), (2, 1)))
        self.assertEqual(calm(THREE), ((0, 0, 2), (1, 0, 0)))

    def test_no_calm_row(self):
        self.assertEqual(calm(PENNIES), ())
        self.assertEqual(calm(PENNIES_OF_THREE), ())

    def test_all_rows_where_all_are_paid_the_same(self):
        for deeds in ALL_DEEDS:
            self.assertEqual(calm(meeting_of(deeds, 3)), rows_by_product(deeds))

    def test_just_the_rows_from_which_no_hand_gains(self):
        for meeting in MANY + BEYOND:
            pays = pays_by_rows(meeting)
            expected = []
            for row in rows_by_product(meeting[0]):
                gains = [
                    (hand, deed) for hand, many in enumerate(meeting[0]) for deed in range(many)
                    if pays[put(row, hand, deed)][hand] > pays[row][hand]
                ]
                if not gains:
                    expected.append(row)
            self.assertEqual(calm(meeting), tuple(expected))

    def test_in_a_calm_row_each_hand_is_paid_what_it_can_be_held_to_or_more(self):
        seen = 0
        for meeting in MANY:
            for row in calm(meeting):
                for hand, pay in enumerate(paid(meeting, row)):
                    self.assertGreaterEqual(pay, held_to(meeting, hand))
                    seen += 1
        self.assertGreater(seen, 100)


class HeldToTest(OnceTest):
    def test_worked_out_by_hand(self):
        self.told_of_all(held_to, DILEMMA, [1, 1])
        self.told_of_all(held_to, SMALL, [0, 0])
        self.told_of_all(held_to, PENNIES, [1, 1])
        self.told_of_all(held_to, TIES, [4, 1])
        self.told_of_all(held_to, THREE, [-1, -9, 5])
        self.told_of_all(held_to, PENNIES_OF_THREE, [1, 5, 1])

    def test_others_hold_it_together(self):
        # By (0, 0): 8, by (0, 1): 5, by (1, 0): 7, by (1, 1): -2.
        self.assertEqual(held_to(TOGETHER, 0), -2)

    def test_the_least_number_of_which_the_document_speaks(self):
        for meeting in MANY + BEYOND:
            pays = pays_by_rows(meeting)
            for hand, many in enumerate(meeting[0]):
                def keeps(number):
                    return any(
                        all(pays[put(row, hand, deed)][hand] <= number for deed in range(many))
                        for row in others_deeds(meeting, hand)
                    )
                self.assertTrue(keeps(held_to(meeting, hand)))
                self.assertFalse(keeps(held_to(meeting, hand) - 1))


class SureTest(OnceTest):
    def test_worked_out_by_hand(self):
        self.told_of_all(sure, DILEMMA, [1, 1])
        self.told_of_all(sure, SMALL, [0, 0])
        self.told_of_all(sure, PENNIES, [-1, -1])
        self.told_of_all(sure, TIES, [4, 1])
        self.told_of_all(sure, THREE, [-1, -9, 3])
        self.told_of_all(sure, PENNIES_OF_THREE, [-1, 5, -1])

    def test_whatever_both_others_do(self):
        # By deed 0 at least -2, by deed 1 at least -3.
        self.assertEqual(sure(TOGETHER, 0), -2)

    def test_the_greatest_number_of_which_the_document_speaks(self):
        for meeting in MANY + BEYOND:
            pays = pays_by_rows(meeting)
            for hand, many in enumerate(meeting[0]):
                def is_sure(number):
                    return any(
                        all(pays[put(row, hand, deed)][hand] >= number for row in others_deeds(meeting, hand))
                        for deed in range(many)
                    )
                self.assertTrue(is_sure(sure(meeting, hand)))
                self.assertFalse(is_sure(sure(meeting, hand) + 1))

    def test_held_to_is_no_less_than_sure(self):
        apart = 0
        for meeting in MANY:
            for hand in range(len(meeting[0])):
                self.assertGreaterEqual(held_to(meeting, hand), sure(meeting, hand))
                apart += held_to(meeting, hand) > sure(meeting, hand)
        self.assertGreater(apart, 10)


class ToldTest(OnceTest):
    def told(self, meeting):
        rows = rows_by_product(meeting[0])
        hands = range(len(meeting[0]))
        return (
            tuple(paid(meeting, row) for row in rows), calm(meeting),
            tuple(best_deeds(meeting, hand, row) for hand in hands for row in rows),
            tuple((held_to(meeting, hand), sure(meeting, hand)) for hand in hands),
        )

    def test_kinds_told_again_and_nothing_changed(self):
        for meeting in SOME:
            before = copy.deepcopy(meeting)
            first = self.told(meeting)
            self.assertIs(all_kinds_told(first), True)
            self.assertEqual(self.told(meeting), first)
            self.assertEqual(meeting, before)

    def test_numbers_are_whole_and_no_truths(self):
        for meeting in SOME:
            for hand in range(len(meeting[0])):
                self.assertIs(held_to(meeting, hand).__class__, int)
                self.assertIs(sure(meeting, hand).__class__, int)
                for deed in best_deeds(meeting, hand, (0,) * len(meeting[0])):
                    self.assertIs(deed.__class__, int)
