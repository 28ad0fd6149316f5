import fractions
import unittest

from pactkeep.fractions import is_fraction, is_less, is_whole, lowest
from tests.samples import LONE_THINGS, replaced, wrong_kinds, wrong_lengths

SOME = [lowest(upper, lower) for upper in range(-5, 6) for lower in range(1, 6)]


def pair(number):
    return (number.numerator, number.denominator)


class WholeTest(unittest.TestCase):
    def test_whole_numbers(self):
        for thing in (0, 1, -1, 10 ** 40):
            self.assertIs(is_whole(thing), True)

    def test_truths_are_none(self):
        self.assertIs(is_whole(True), False)
        self.assertIs(is_whole(False), False)

    def test_other_things(self):
        for thing in (None, "", "1", (), (1,), [], [1]):
            self.assertIs(is_whole(thing), False)


class FractionTest(unittest.TestCase):
    def test_pairs_that_cannot_be_made_less_with_lower_from_1_on(self):
        for upper in range(-12, 13):
            for lower in range(-12, 13):
                one = lower >= 1 and pair(fractions.Fraction(upper, lower)) == (upper, lower)
                self.assertIs(is_fraction((upper, lower)), one, (upper, lower))

    def test_nought_and_one(self):
        self.assertIs(is_fraction((0, 1)), True)
        self.assertIs(is_fraction((1, 1)), True)
        for thing in ((0, 0), (0, 2), (2, 2), (1, 0), (1, -1)):
            self.assertIs(is_fraction(thing), False)

    def test_large_ones(self):
        self.assertIs(is_fraction((10 ** 60, 10 ** 60 + 1)), True)
        self.assertIs(is_fraction((10 ** 60, 10 ** 60 + 2)), False)

    def test_wrong_things(self):
        wrongs = replaced((1, 2), wrong_kinds) + replaced((1, 2), wrong_lengths)
        for thing in wrongs:
            self.assertIs(is_fraction(thing), False, thing)
        for thing in LONE_THINGS:
            self.assertIs(is_fraction(thing), False, thing)


class ReckoningTest(unittest.TestCase):
    def test_lowest(self):
        for upper in range(-12, 13):
            for lower in list(range(-12, 0)) + list(range(1, 13)):
                self.assertEqual(lowest(upper, lower), pair(fractions.Fraction(upper, lower)))

    def test_no_lower_of_nought(self):
        for upper in (-1, 0, 1):
            with self.assertRaises(ZeroDivisionError):
                lowest(upper, 0)

    def test_which_is_less(self):
        for one in SOME:
            for other in SOME:
                self.assertIs(is_less(one, other), fractions.Fraction(*one) < fractions.Fraction(*other))

    def test_pairs_that_are_not_made_lowest_can_be_asked_too(self):
        self.assertIs(is_less((2, 4), (1, 2)), False)
        self.assertIs(is_less((1, 2), (2, 4)), False)
        self.assertIs(is_less((-6, 4), (-14, 10)), True)

    def test_what_comes_out_is_a_fraction(self):
        for told in SOME:
            self.assertIs(is_fraction(told), True, told)
