"""Fractions [4], and what [2] says of whole numbers."""

import math
import unittest

from tilefall import errors
from tilefall.shares import added, divided, fraction, is_fraction, is_less, lessened, timed

GREAT = 10 ** 59 + 7
GREATER = 10 ** 60 - 1

# Wholes and parts of either sign, nought, and ones of sixty figures.
TOPS = (-GREATER, -25, -12, -7, -1, 0, 1, 2, 9, 12, 35, GREAT)
BOTTOMS = (1, 2, 3, 8, 12, 35, GREAT, GREATER)
SOME = sorted(set(
    (top // math.gcd(top, bottom), bottom // math.gcd(top, bottom)) for top in TOPS for bottom in BOTTOMS
))

NO_WHOLES = (
    True, False, None, 1.0, 0.5, float("nan"), 1j, "1", "", b"1", [1], (1,), (2, 2), {1: 1}, {1}, object(), int,
)

NO_FRACTIONS = NO_WHOLES + (
    # Lists in the place of tuples.
    [1, 2], [0, 1],
    # Too few things and too many.
    (), (0,), (1, 2, 3), (1, 1, 1), (0, 1, None),
    # A bottom of 0 or below.
    (0, 0), (1, 0), (-1, 0), (1, -1), (-1, -2), (0, -1), (GREAT, -GREATER),
    # Not in lowest terms.
    (0, 2), (2, 2), (2, 4), (-2, 4), (9, 6), (3 * GREAT, 3), (GREAT, GREAT), (0, GREAT),
    # Things that are no whole numbers.
    (True, 1), (False, 1), (1, True), (3, True), (True, True), (1.0, 2), (1, 2.0), ("1", "2"), ("1", 2), (1, "2"),
    (None, 1), (1, None), ((1, 2), 1), (1, (2, 1)), ([1], 2), (1, [2]), "12", "ab", b"ab", range(1, 3), {1: 2, 3: 4},
)


class RefusesWell(unittest.TestCase):
    def assert_no_number(self, deed, *things):
        with self.assertRaises(errors.TileError) as taken:
            deed(*things)
        self.assertIs(type(taken.exception), errors.NoNumber)


class IsFraction(unittest.TestCase):
    def test_fractions(self):
        for thing in (
            (0, 1), (1, 1), (-1, 1), (1, 2), (-1, 2), (7, 3), (-7, 3), (5, 1), (6, 35), (-6, 35),
            (GREATER, GREATER - 1), (-GREATER, GREATER - 1), (GREATER, 1), (1, GREATER),
        ):
            with self.subTest(thing=thing):
                self.assertIs(is_fraction(thing), True)

    def test_no_fractions(self):
        for thing in NO_FRACTIONS:
            with self.subTest(thing=thing):
                self.assertIs(is_fraction(thing), False)

    def test_all_small_pairs(self):
        for top in range(-13, 14):
            for bottom in range(-13, 14):
                with self.subTest(top=top, bottom=bottom):
                    self.assertIs(is_fraction((top, bottom)), bottom >= 1 and math.gcd(top, bottom) == 1)


class FractionMade(RefusesWell):
    def test_of_one_whole_number(self):
        for top in TOPS:
            with self.subTest(top=top):
                self.assertEqual(fraction(top), (top, 1))

    def test_told_ones(self):
        for top, bottom, told in (
            (1, 2, (1, 2)), (2, 4, (1, 2)), (-2, 4, (-1, 2)), (2, -4, (-1, 2)), (-2, -4, (1, 2)),
            (0, 1, (0, 1)), (0, -1, (0, 1)), (0, 7, (0, 1)), (0, -7, (0, 1)), (0, GREAT, (0, 1)),
            (6, 3, (2, 1)), (6, -3, (-2, 1)), (7, 7, (1, 1)), (-7, 7, (-1, 1)), (1, -1, (-1, 1)), (1, 1, (1, 1)),
            (5, 3, (5, 3)), (3, 5, (3, 5)), (84, 36, (7, 3)), (36, 84, (3, 7)),
            (GREATER, 9, (int("1" * 60), 1)), (9, -GREATER, (-1, int("1" * 60))), (GREAT, GREAT, (1, 1)),
        ):
            with self.subTest(top=top, bottom=bottom):
                self.assertEqual(fraction(top, bottom), told)

    def test_the_arguments_names(self):
        self.assertEqual(fraction(top=6, bottom=4), (3, 2))
        self.assertEqual(fraction(6, bottom=4), (3, 2))
        self.assertEqual(fraction(top=6), (6, 1))

    def test_lowest_terms_and_the_same_worth(self):
        for top in TOPS:
            for bottom in BOTTOMS:
                for sign in (1, -1):
                    with self.subTest(top=top, bottom=sign * bottom):
                        made = fraction(top, sign * bottom)
                        self.assertIs(type(made), tuple)
                        self.assertGreaterEqual(made[1], 1)
                        self.assertEqual(math.gcd(made[0], made[1]), 1)
                        self.assertEqual(made[0] * sign * bottom, top * made[1])
                        self.assertIs(is_fraction(made), True)

    def test_a_bottom_of_nought_is_refused(self):
        for top in TOPS:
            with self.subTest(top=top):
                self.assert_no_number(fraction, top, 0)

    def test_what_is_no_whole_number_is_refused(self):
        for thing in NO_WHOLES + ((1, 2), (3, 1)):
            with self.subTest(thing=thing):
                self.assert_no_number(fraction, thing)
                self.assert_no_number(fraction, thing, 1)
                self.assert_no_number(fraction, thing, 0)
                self.assert_no_number(fraction, 1, thing)
                self.assert_no_number(fraction, 0, thing)
                self.assert_no_number(fraction, thing, thing)

    def test_a_refusal_changes_nothing(self):
        thing = [1, 2]
        self.assert_no_number(fraction, thing, 1)
        self.assert_no_number(fraction, 1, thing)
        self.assertEqual(thing, [1, 2])
        self.assertEqual(fraction(2, 4), (1, 2))


class Reckonings(RefusesWell):
    def assert_worth(self, told, top, bottom):
        self.assertIs(type(told), tuple)
        self.assertEqual(len(told), 2)
        self.assertGreaterEqual(told[1], 1)
        self.assertEqual(math.gcd(told[0], told[1]), 1)
        self.assertEqual(told[0] * bottom, top * told[1])

    def test_told_ones(self):
        for deed, one, other, told in (
            (added, (1, 2), (1, 3), (5, 6)), (added, (1, 2), (1, 2), (1, 1)), (added, (1, 6), (1, 3), (1, 2)),
            (added, (1, 2), (-1, 2), (0, 1)), (added, (0, 1), (3, 7), (3, 7)),
            (lessened, (1, 2), (1, 3), (1, 6)), (lessened, (1, 3), (1, 2), (-1, 6)), (lessened, (5, 7), (5, 7), (0, 1)),
            (lessened, (0, 1), (3, 7), (-3, 7)), (lessened, (1, 2), (1, 6), (1, 3)),
            (timed, (2, 3), (3, 4), (1, 2)), (timed, (-2, 3), (3, 2), (-1, 1)), (timed, (-1, 2), (-1, 3), (1, 6)),
            (timed, (0, 1), (3, 7), (0, 1)), (timed, (1, 1), (3, 7), (3, 7)),
            (divided, (1, 2), (1, 4), (2, 1)), (divided, (1, 4), (1, 2), (1, 2)), (divided, (1, 2), (-1, 4), (-2, 1)),
            (divided, (-3, 7), (-3, 7), (1, 1)), (divided, (0, 1), (-3, 7), (0, 1)), (divided, (2, 3), (4, 9), (3, 2)),
        ):
            with self.subTest(deed=deed.__name__, one=one, other=other):
                self.assertEqual(deed(one, other), told)

    def test_against_whole_numbers(self):
        for one in SOME:
            for other in SOME:
                with self.subTest(one=one, other=other):
                    above, below = one[0] * other[1], one[1] * other[1]
                    self.assert_worth(added(one, other), above + other[0] * one[1], below)
                    self.assert_worth(lessened(one, other), above - other[0] * one[1], below)
                    self.assert_worth(timed(one, other), one[0] * other[0], below)
                    if other[0] != 0:
                        self.assert_worth(divided(one, other), above, one[1] * other[0])

    def test_a_quotient_by_nought_is_refused(self):
        for one in SOME:
            with self.subTest(one=one):
                self.assert_no_number(divided, one, (0, 1))


class IsLess(unittest.TestCase):
    def test_told_ones(self):
        for one, other, told in (
            ((1, 3), (1, 2), True), ((1, 2), (1, 3), False), ((1, 2), (1, 2), False), ((0, 1), (0, 1), False),
            ((-1, 2), (-1, 3), True), ((-1, 3), (-1, 2), False), ((-1, 2), (0, 1), True), ((0, 1), (-1, 2), False),
            ((0, 1), (1, GREATER), True), ((2, 3), (3, 4), True), ((3, 4), (2, 3), False), ((5, 1), (9, 2), False),
            ((GREATER - 1, GREATER), (1, 1), True), ((GREATER - 2, GREATER - 1), (GREATER - 1, GREATER), True),
            ((GREATER - 1, GREATER), (GREATER - 2, GREATER - 1), False),
        ):
            with self.subTest(one=one, other=other):
                self.assertIs(is_less(one, other), told)

    def test_against_whole_numbers(self):
        for one in SOME:
            for other in SOME:
                with self.subTest(one=one, other=other):
                    self.assertIs(is_less(one, other), one[0] * other[1] - other[0] * one[1] < 0)


if __name__ == "__main__":
    unittest.main()
