import unittest

from pactkeep.errors import NoPact, NoText, PactError


class ErrorsTest(unittest.TestCase):
    def test_any_refusal_is_a_value_error(self):
        self.assertEqual(PactError.__bases__, (ValueError,))

    def test_both_stand_below_pact_error(self):
        self.assertTrue(issubclass(NoText, PactError))
        self.assertTrue(issubclass(NoPact, PactError))
        self.assertIsNot(NoText, PactError)
        self.assertIsNot(NoPact, PactError)

    def test_neither_stands_below_the_other(self):
        self.assertFalse(issubclass(NoText, NoPact))
        self.assertFalse(issubclass(NoPact, NoText))

    def test_each_can_be_raised_with_words_of_its_own(self):
        for error in (PactError, NoText, NoPact):
            with self.assertRaises(ValueError) as caught:
                raise error("why")
            self.assertIs(caught.exception.__class__, error)
            self.assertEqual(str(caught.exception), "why")
