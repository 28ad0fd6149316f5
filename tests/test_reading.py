import math
import re
import unittest

from pactkeep.errors import NoPact, NoText
from pactkeep.reading import read
from pactkeep.things import is_meeting
from pactkeep.writing import written
from tests.samples import ALL_DEEDS, DILEMMA, SMALL, THREE, all_kinds_told, meeting_of, spread_meeting

SIGNS = "".join(chr(number) for number in range(ord(" "), ord("~") + 1))
EXAMPLE = "2 2 : 3,3 0,5 5,0 1,1"
WRITINGS = (EXAMPLE, "1 1 : -9,0", "1 2 1 : -1,0,9 4,-4,3", "3 1 : -1,1 0,0 9,-9")
NUMBER = "(?:0|-?[1-9])"
FORM = re.compile(f"[1-3](?: [1-3]){{1,2}} :(?: {NUMBER}(?:,{NUMBER}){{1,2}})+")


def is_writing(text):
    """The form as an expression, and then the counts: told in another way than the program tells it."""
    if not FORM.fullmatch(text):
        return False
    left, right = text.split(" : ")
    deeds = [int(word) for word in left.split(" ")]
    pays = right.split(" ")
    return len(pays) == math.prod(deeds) and all(word.count(",") == len(deeds) - 1 for word in pays)


class ReadingTest(unittest.TestCase):
    def refused(self, text):
        with self.assertRaises(NoText, msg=text[:80]) as caught:
            read(text)
        self.assertNotIsInstance(caught.exception, NoPact)

    def judged(self, text):
        """Gives whether the text was read."""
        if not is_writing(text):
            self.refused(text)
            return False
        meeting = read(text)
        self.assertIs(is_meeting(meeting), True, text)
        self.assertEqual(written(meeting), text)
        return True


class ReadTest(ReadingTest):
    def test_the_documents_example(self):
        self.assertEqual(read(EXAMPLE), DILEMMA)

    def test_others_worked_out_by_hand(self):
        self.assertEqual(read("1 1 : 0,0"), SMALL)
        self.assertEqual(read("1 2 : -9,9 0,-1"), ((1, 2), ((-9, 9), (0, -1))))
        self.assertEqual(read("2 1 3 : 1,2,3 0,0,0 -1,4,7 9,-9,5 2,2,2 -4,0,1"), THREE)

    def test_all_numbers_of_deeds(self):
        for deeds in ALL_DEEDS:
            for seed in range(4):
                meeting = spread_meeting(deeds, seed)
                self.assertEqual(read(written(meeting)), meeting)

    def test_all_pays(self):
        for number in range(-9, 10):
            for deeds in ((1, 1), (2, 3), (1, 1, 1), (3, 3, 3)):
                meeting = meeting_of(deeds, number)
                self.assertEqual(read(written(meeting)), meeting)
            for hand in (0, 1, 2):
                pays = tuple(number if other == hand else 0 for other in (0, 1, 2))
                self.assertEqual(read(written(((1, 1, 1), (pays,)))), ((1, 1, 1), (pays,)))

    def test_kinds_of_what_is_told_and_told_again(self):
        for text in WRITINGS:
            self.assertIs(all_kinds_told(read(text)), True)
            self.assertEqual(read(text), read(text))


class RefusedTest(ReadingTest):
    def test_nothing_or_next_to_nothing(self):
        for text in ("", " ", "  ", ":", " :", ": ", " : ", ",", "1", "1 1", "1 1 :", "1 1 : ", "1 1 : ,", ": 0,0"):
            self.refused(text)
        for sign in SIGNS:
            self.refused(sign)
            self.refused(sign * 2)

    def test_words_that_are_no_meeting(self):
        for text in ("a meeting", "None", "((2, 2), ((3, 3), (0, 5), (5, 0), (1, 1)))", "two two : a,b", "~" * 300):
            self.refused(text)

    def test_blanks_too_many_or_too_few(self):
        for text in WRITINGS:
            self.refused(" " + text)
            self.refused(text + " ")
            self.refused(" " + text + " ")
            for place, sign in enumerate(text):
                self.refused(text[:place] + " " + text[place:])
                if sign == " ":
                    self.refused(text[:place] + text[place + 1:])

    def test_a_sign_left_out_doubled_put_in_or_in_the_place_of_another(self):
        reads = 0
        for text in WRITINGS:
            for place in range(len(text)):
                reads += self.judged(text[:place] + text[place + 1:])
                self.refused(text[:place] + text[place] + text[place:])
                for sign in SIGNS:
                    reads += self.judged(text[:place] + sign + text[place:])
                    reads += self.judged(text[:place] + sign + text[place + 1:])
            for sign in SIGNS:
                self.refused(text + sign)
        # Another digit in the place of a digit is a meeting's writing, so that this must have been seen too.
        self.assertGreater(reads, 100)

    def test_a_whole_part_left_out_doubled_or_exchanged(self):
        for text in WRITINGS:
            words = text.split(" ")
            for place in range(len(words)):
                self.judged(" ".join(words[:place] + words[place + 1:]))
                self.judged(" ".join(words[:place + 1] + words[place:]))
                for other in range(place):
                    mixed = list(words)
                    mixed[place], mixed[other] = mixed[other], mixed[place]
                    self.judged(" ".join(mixed))

    def test_other_writings_of_numbers(self):
        for number in ("-0", "+1", "+0", "01", "00", "-01", "--1", "1-", "-", "+", "1.0", "1e0", "0x1", "1_0", "_1", "1_"):
            for text in (f"1 1 : {number},0", f"1 1 : 0,{number}", f"1 1 1 : 0,{number},0", f"1 2 : 0,0 {number},0"):
                self.refused(text)
        for number in ("01", "+1", "1.", "1_", "-1", "0", "-0", "001"):
            for text in (f"{number} 1 : 0,0", f"1 {number} : 0,0", f"1 {number} 1 : 0,0,0"):
                self.refused(text)

    def test_numbers_beyond(self):
        for number in ("10", "-10", "11", "19", "90", "99", "-99", "100", "1" * 50, "9" * 5000, "-" + "9" * 5000):
            for text in (f"1 1 : {number},0", f"1 1 : 0,{number}", f"1 1 1 : 0,0,{number}", f"2 1 : 0,0 {number},0"):
                self.refused(text)
        for deeds in ((4, 1), (1, 4), (0, 1), (1, 0), (0, 0), (1, 1, 4), (1, 0, 1), (9, 1), (10, 1), (40, 1)):
            self.refused(written(meeting_of(deeds)))
        self.refused("-1 -1 : 0,0")
        self.refused("1" + "0" * 5000 + " 1 : 0,0")
        self.refused("9 9 9 : 0,0,0")

    def test_too_few_or_too_many_pays(self):
        for deeds in ALL_DEEDS:
            pay = meeting_of(deeds)[1]
            for wrong in ((), pay[1:], pay + pay[:1], pay + pay):
                self.refused(written((deeds, wrong)))

    def test_too_few_or_too_many_numbers_in_a_pay(self):
        for deeds in ((1, 1), (2, 2), (1, 2, 1)):
            pay = meeting_of(deeds)[1]
            for place, pays in enumerate(pay):
                for wrong in ((), pays[1:], pays + (0,)):
                    self.refused(written((deeds, pay[:place] + (wrong,) + pay[place + 1:])))
        self.refused("1 1 : 0,0,0")
        self.refused("1 1 1 : 0,0")

    def test_too_few_or_too_many_hands(self):
        for deeds in ((), (1,), (2,), (3,), (1, 1, 1, 1), (2, 1, 1, 2), (1,) * 60):
            self.refused(written(meeting_of(deeds)))

    def test_colons(self):
        for text in (
            "2 2 3,3 0,5 5,0 1,1", "2 2: 3,3 0,5 5,0 1,1", "2 2 :3,3 0,5 5,0 1,1", "2 2:3,3 0,5 5,0 1,1",
            "2 2 : : 3,3 0,5 5,0 1,1", "2 : 2 3,3 0,5 5,0 1,1", "2 2 :: 3,3 0,5 5,0 1,1", "2 2 : 3,3 0,5 : 5,0 1,1",
            "2 2 : 3,3 0,5 5,0 1,1 :", ": 2 2 : 3,3 0,5 5,0 1,1", "2 2 ; 3,3 0,5 5,0 1,1", "2,2 : 3,3 0,5 5,0 1,1",
        ):
            self.refused(text)

    def test_commas(self):
        for text in (
            "1 1 : 0 0", "1 1 : 0;0", "1 1 : 0, 0", "1 1 : 0 ,0", "1 1 : 0,,0", "1 1 : ,0,0", "1 1 : 0,0,",
            "1 2 : 0,0,0,0", "1 2 : 0,0, 0,0", "1 2 : 0 0,0 0", "1 1 : 0.0", "1 1 : 0:0", "1 1 : (0,0)",
        ):
            self.refused(text)
