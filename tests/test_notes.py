"""Rows as texts: points 1 and 12 of the document."""

import copy
import itertools
import unittest

from tests.helper import WORDS, RefusalTest, problems
from wholecut import notes as module
from wholecut.errors import BadText
from wholecut.notes import read, shown

NUMBERS = (-50, -49, -10, -9, -1, 0, 1, 9, 10, 49, 50)
BOUNDS = (-2000, -1999, -1000, -999, -100, -99, -10, -1, 0, 1, 10, 99, 100, 999, 1000, 1999, 2000)


class ShownTest(unittest.TestCase):
    def test_interface(self):
        for found in (shown, read):
            self.assertEqual(found.__module__, module.__name__)
        self.assertEqual(shown(row=((1,), "most", 2)), "1 most 2")
        self.assertEqual(read(text="1 most 2"), ((1,), "most", 2))

    def test_by_hand(self):
        for row, text in ((((2, -3, 0), "most", 7), "2 -3 0 most 7"),
                          (((0,), "least", 0), "0 least 0"),
                          (((-50, 50), "least", -2000), "-50 50 least -2000"),
                          (((10, -10, 5), "most", 2000), "10 -10 5 most 2000"),
                          (((-1,), "most", -1), "-1 most -1")):
            self.assertEqual(shown(row), text)
            self.assertEqual(read(text), row)

    def test_the_row_is_unchanged(self):
        row = ((2, -3, 0), "most", 7)
        before = copy.deepcopy(row)
        self.assertIs(type(shown(row)), str)
        self.assertEqual(row, before)


class ReadTest(unittest.TestCase):
    def back(self, row):
        text = shown(row)
        told = read(text)
        self.assertEqual(told, row, text)
        self.assertEqual((type(told), type(told[0]), type(told[1]), type(told[2])), (tuple, tuple, str, int))
        self.assertTrue(all(type(number) is int for number in told[0]))
        self.assertEqual(shown(told), text)

    def test_each_number_and_each_bound(self):
        for number in range(-50, 51):
            self.back(((number,), "most", number))
        for bound in range(-2000, 2001):
            self.back(((1, 2), "least", bound))

    def test_one_two_and_three_numbers_at_the_ends(self):
        for unknowns in (1, 2, 3):
            for numbers in itertools.product(NUMBERS, repeat=unknowns):
                self.back((numbers, WORDS[sum(numbers) % 2], BOUNDS[sum(numbers) % len(BOUNDS)]))
        for word in WORDS:
            for bound in BOUNDS:
                self.back(((50, -50, 0), word, bound))

    def test_the_rows_of_many_problems(self):
        for problem in problems(121, 100, 20):
            for row in problem.rows:
                self.back(row)


class BadTextTest(RefusalTest):
    def bad(self, text):
        self.refused(BadText, read, text)

    def each_place(self, thing):
        """The thing in the place of each number of good texts."""
        for unknowns in (1, 2, 3):
            for place in range(unknowns):
                numbers = ["1"] * unknowns
                numbers[place] = thing
                self.bad(" ".join(numbers + ["most", "7"]))
            self.bad(" ".join(["1"] * unknowns + ["least", thing]))

    def test_no_text(self):
        for thing in (None, True, 0, 7, 1.5, b"1 most 7", ["1", "most", "7"], ("1", "most", "7"), {}, [], (),
                      ((1,), "most", 7), [((1,), "most", 7)], object(), str):
            self.bad(thing)

    def test_the_empty_text_and_blanks_alone(self):
        for text in ("", " ", "  ", "   ", "    ", "     "):
            self.bad(text)

    def test_blanks_too_many_and_too_few(self):
        good = "2 -3 -5 most 7"
        self.assertEqual(read(good), ((2, -3, -5), "most", 7))
        for place, sign in enumerate(good):
            if sign == " ":
                self.bad(good[:place] + " " + good[place:])
                self.bad(good[:place] + good[place + 1:])
        for text in (" " + good, good + " ", " " + good + " ", "  1 most 7", "1 most 7  ", "1 most  7", "1  most 7",
                     "- 1 most 7", "1 most - 7"):
            self.bad(text)

    def test_other_white_space(self):
        good = "2 -3 0 most 7"
        for space in ("\t", "\n", "\r", "\f", "\v", "\r\n", "\x1c", "\x85", "\xa0", "\u2003", "\u2028", "\u3000",
                      "\u200b", "\ufeff", "\0"):
            for text in (good.replace(" ", space), space + good, good + space, good + " " + space, space + " " + good):
                self.bad(text)
            for place in range(len(good) + 1):
                self.bad(good[:place] + space + good[place:])
                if place < len(good):
                    self.bad(good[:place] + space + good[place + 1:])

    def test_other_signs_ahead(self):
        for thing in ("+1", "+0", "-0", "--1", "+-1", "-+1", "-", "+", "1-", "~1", "\u22121", "(1)", "-00", "- 1"):
            self.each_place(thing)

    def test_noughts_ahead(self):
        for thing in ("00", "01", "-01", "000", "0000", "0007", "-007", "050", "00000000000000000001", "0" * 5000):
            self.each_place(thing)

    def test_other_figures(self):
        for thing in ("\u0661", "\uff11", "\u00b2", "\u2160", "\u0967", "1\u0661", "-\uff15", "\u096610", "\u4e00",
                      "one", "a", "1a", "a1", "0x1", "0b1", "0o7", "1e1", "1.0", "1.", "1,0", "1/1", "1L", "l", "O",
                      "True", "None", "nan", "inf", "", "\"1\"", "1;"):
            self.each_place(thing)

    def test_underscores(self):
        for thing in ("1_0", "_1", "1_", "-_1", "1__0", "_"):
            self.each_place(thing)

    def test_words(self):
        for word in ("", "Most", "MOST", "mosT", "Least", "LEAST", "mos", "ost", "mostly", "leas", "atmost", "<=", "at",
                     "most most", "least most", "most least", "equal", "0", "7", "-1", "m\u043est", "more", "less"):
            self.bad(f"1 {word} 7")
            self.bad(f"1 2 {word} 7")
            self.bad(f"1 2 3 {word} 7")

    def test_left_out_and_exchanged(self):
        for text in ("most", "most 7", "1 most", "1 7", "1", "7", "1 2 3", "1 2 3 7", "1 2 3 4 5", "most 1 7",
                     "1 7 most", "7 most", "least 7", "1 most 2 7", "most 1 2 7", "1 2 7 most",
                     "1 most 7 8", "1 most 7 least 8", "1 most least 7", "most 1 most 7", "1 most 2 least 7",
                     "-50 most", "1 most 7 1 most 7"):
            self.bad(text)

    def test_no_number_and_four(self):
        for many in (0, 4, 5, 6, 100, 100000):
            self.bad(" ".join(["1"] * many + ["most", "7"]))
        self.bad(" most 7")

    def test_numbers_just_beyond_the_bounds(self):
        for number in ("51", "-51", "52", "59", "60", "-60", "99", "-99", "100", "-100", "500", "2000", "-2000"):
            for unknowns in (1, 2, 3):
                for place in range(unknowns):
                    numbers = ["1"] * unknowns
                    numbers[place] = number
                    self.bad(" ".join(numbers + ["most", "7"]))
        for bound in ("2001", "-2001", "2010", "2999", "3000", "-3000", "9999", "-9999", "10000", "-10000", "20000"):
            for word in WORDS:
                self.bad(f"1 {word} {bound}")
                self.bad(f"1 2 3 {word} {bound}")

    def test_numbers_of_thousands_of_figures(self):
        for many in (20, 4299, 4300, 4301, 5000, 200000):
            for figure in "19":
                self.each_place(figure * many)
                self.each_place("-" + figure * many)

    def test_words_of_thousands_of_signs(self):
        for sign in ("-", "a", "0", "\u0661", "_"):
            self.each_place(sign * 5000)
            self.bad(f"1 {sign * 5000} 7")

    def test_read_again_after_a_refusal(self):
        self.bad("1 most 2001")
        self.assertEqual(read("1 most 2000"), ((1,), "most", 2000))
        self.bad("1 most 2001")


if __name__ == "__main__":
    unittest.main()
