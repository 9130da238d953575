"""Numbers as texts write them: those above 0 of [20], 0 and those below it of [25], and runs' numbers."""

import unittest
from fractions import Fraction

from test_rows import NO_TIMES
from tilefall.figures import read_moment, read_run_number, read_time, shown_fraction


class Figures(unittest.TestCase):
    def test_shown_and_read(self):
        for told, word in (
            ((1, 1), "1"), ((10, 1), "10"), ((1, 2), "1/2"), ((12, 7), "12/7"), ((999999999999, 5), "999999999999/5"),
        ):
            with self.subTest(word=word):
                self.assertEqual(shown_fraction(told), word)
                self.assertEqual(read_time(word), told)
                self.assertEqual(read_moment(word), told)

    def test_nought_and_below(self):
        for told, word in (((0, 1), "0"), ((-1, 1), "-1"), ((-1, 2), "-1/2"), ((-20, 3), "-20/3")):
            with self.subTest(word=word):
                self.assertEqual(shown_fraction(told), word)
                self.assertIsNone(read_time(word))
                self.assertEqual(read_moment(word), (0, 1) if word == "0" else None)

    def test_many_figures(self):
        for top in (10 ** 64 - 1, 10 ** 64, 10 ** 64 + 1, 10 ** 128, 10 ** 128 - 1, 10 ** 200 + 10 ** 70, 7 ** 500):
            for sign in (1, -1):
                with self.subTest(top=sign * top):
                    self.assertEqual(shown_fraction((sign * top, 1)), str(sign * top))
                    each = Fraction(sign * top, 10 ** 90 + 9)
                    self.assertEqual(shown_fraction((each.numerator, each.denominator)), str(each))

    def test_what_is_no_time(self):
        for word in NO_TIMES:
            with self.subTest(word=word):
                self.assertIsNone(read_time(word))
                if word != "0":
                    self.assertIsNone(read_moment(word))

    def test_run_numbers(self):
        for number in range(1000):
            self.assertEqual(read_run_number(str(number)), number)
        for word in ("", "00", "01", "007", "1000", "0000", "-1", "+1", "-0", "1/2", "1.0", "a", " 1", "1 ", "\u0661", "1_0"):
            with self.subTest(word=word):
                self.assertIsNone(read_run_number(word))


if __name__ == "__main__":
    unittest.main()
