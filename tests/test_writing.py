import copy
import unittest

from pactkeep.writing import written
from tests.samples import ALL_DEEDS, DILEMMA, SMALL, THREE, spread_meeting


class WritingTest(unittest.TestCase):
    def test_the_documents_example(self):
        self.assertEqual(written(DILEMMA), "2 2 : 3,3 0,5 5,0 1,1")

    def test_one_row(self):
        self.assertEqual(written(SMALL), "1 1 : 0,0")
        self.assertEqual(written(((1, 1, 1), ((-9, 0, 9),))), "1 1 1 : -9,0,9")

    def test_three_hands(self):
        self.assertEqual(written(THREE), "2 1 3 : 1,2,3 0,0,0 -1,4,7 9,-9,5 2,2,2 -4,0,1")

    def test_hands_of_different_numbers_of_deeds(self):
        meeting = ((3, 2), ((0, 1), (2, 3), (4, 5), (6, 7), (8, 9), (-1, -2)))
        self.assertEqual(written(meeting), "3 2 : 0,1 2,3 4,5 6,7 8,9 -1,-2")
        self.assertEqual(written(((2, 3), meeting[1])), "2 3 : 0,1 2,3 4,5 6,7 8,9 -1,-2")

    def test_no_two_meetings_are_written_alike(self):
        meetings = [spread_meeting(deeds, seed) for deeds in ALL_DEEDS for seed in range(5)]
        self.assertEqual(len(set(written(meeting) for meeting in meetings)), len(set(meetings)))

    def test_meetings_somewhat_beyond_are_not_refused(self):
        self.assertEqual(written(((4, 1), ((10, -10), (0, 12), (100, 0), (-11, 1)))), "4 1 : 10,-10 0,12 100,0 -11,1")
        self.assertEqual(written(((1, 1, 1, 1), ((1, 2, 3, 4),))), "1 1 1 1 : 1,2,3,4")
        self.assertEqual(written(((2,), ((1,), (2,)))), "2 : 1 2")

    def test_a_text_is_told_the_same_again_and_nothing_is_changed(self):
        meeting = copy.deepcopy(THREE)
        first = written(meeting)
        self.assertIs(first.__class__, str)
        self.assertEqual(written(meeting), first)
        self.assertEqual(meeting, THREE)
