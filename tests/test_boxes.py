"""Times made of the times of a box [17]."""

import itertools
import random
import unittest
from fractions import Fraction

from helpers import Refuses, told_of, worth
from tilefall.boxes import made_of

GREAT = 10 ** 59 + 7


def slow_made(box, time, most):
    """The fewest times, of as few the greatest list, by going through all lists of up to so many; else None."""
    falling = sorted([worth(each) for each in box], reverse=True)
    for count in range(most + 1):
        lists = [
            list(each) for each in itertools.combinations_with_replacement(falling, count) if sum(each) == worth(time)
        ]
        if lists:
            return [told_of(each) for each in max(lists)]
    return None


class MadeOf(Refuses):
    def test_nought_is_made_of_nothing(self):
        for box in ([(1, 1)], [(1, 2), (1, 3), (7, 5)], [(GREAT, 1)]):
            with self.subTest(box=box):
                self.assertEqual(made_of(box, (0, 1)), [])

    def test_a_time_of_the_box(self):
        box = [(1, 2), (3, 1), (1, 3)]
        for time in box:
            with self.subTest(time=time):
                self.assertEqual(made_of(box, time), [time])

    def test_sums(self):
        for box, time, told in (
            ([(1, 1)], (4, 1), [(1, 1)] * 4),
            ([(1, 2), (1, 1)], (5, 2), [(1, 1), (1, 1), (1, 2)]),
            ([(1, 3), (1, 2)], (5, 6), [(1, 2), (1, 3)]),
            ([(1, 3), (1, 2)], (7, 6), [(1, 2), (1, 3), (1, 3)]),
            # Not the greatest time first.
            ([(1, 1), (3, 1), (4, 1)], (6, 1), [(3, 1), (3, 1)]),
            ([(5, 1), (1, 1), (12, 1)], (15, 1), [(5, 1)] * 3),
            # As fractions, not as tuples, are they compared.
            ([(9, 10), (1, 1), (2, 1)], (29, 10), [(2, 1), (9, 10)]),
            ([(1, 1), (7, 8), (9, 8)], (2, 1), [(9, 8), (7, 8)]),
            ([(GREAT, 1), (2 * GREAT, 1)], (5 * GREAT, 1), [(2 * GREAT, 1), (2 * GREAT, 1), (GREAT, 1)]),
        ):
            with self.subTest(box=box, time=time):
                self.assertEqual(made_of(box, time), told)
                self.assertEqual(made_of(list(reversed(box)), time), told)

    def test_of_several_as_few_the_greatest(self):
        for box, time, told in (
            ([(1, 1), (2, 1), (3, 1), (4, 1)], (5, 1), [(4, 1), (1, 1)]),
            ([(2, 1), (3, 1), (4, 1)], (6, 1), [(4, 1), (2, 1)]),
            ([(2, 1), (3, 1), (4, 1), (7, 1)], (9, 1), [(7, 1), (2, 1)]),
            ([(4, 1), (5, 1), (6, 1)], (15, 1), [(6, 1), (5, 1), (4, 1)]),
            ([(5, 2), (7, 2), (3, 1)], (6, 1), [(7, 2), (5, 2)]),
        ):
            for other in itertools.permutations(box):
                with self.subTest(box=other, time=time):
                    self.assertEqual(made_of(list(other), time), told)

    def test_where_nothing_comes_to_it(self):
        for box, time in (
            ([(1, 1)], (1, 2)), ([(2, 1)], (3, 1)), ([(2, 1)], (1, 1)), ([(3, 1), (5, 1)], (7, 1)), ([(1, 2)], (1, 3)),
            ([(3, 1), (5, 1)], (4, 1)), ([(6, 1), (10, 1), (15, 1)], (29, 1)), ([(1, 7)], (1, GREAT)),
            ([(GREAT, 1)], (1, 1)),
        ):
            with self.subTest(box=box, time=time):
                self.assert_refused("NoSum", made_of, box, time)

    def test_just_beyond_what_cannot_be_made(self):
        self.assertEqual(made_of([(6, 1), (10, 1), (15, 1)], (30, 1)), [(15, 1), (15, 1)])
        self.assertEqual(made_of([(3, 1), (5, 1)], (8, 1)), [(5, 1), (3, 1)])

    def test_400_units(self):
        self.assertEqual(made_of([(1, 1)], (400, 1)), [(1, 1)] * 400)
        self.assertEqual(made_of([(1, 7), (3, 7)], (400, 7)), [(3, 7)] * 133 + [(1, 7)])
        self.assertEqual(made_of([(2, 1), (397, 1)], (399, 1)), [(397, 1), (2, 1)])
        self.assert_refused("NoSum", made_of, [(397, 1), (398, 1)], (399, 1))

    def test_against_a_slow_one(self):
        source = random.Random(21)
        seen = set()
        for turn in range(400):
            bottom = source.choice((1, 2, 6, 35))
            box = [told_of(Fraction(top, bottom)) for top in source.sample(range(1, 13), source.randint(1, 6))]
            time = told_of(Fraction(source.randint(0, 24), bottom))
            least = min(worth(each) for each in box)
            told = slow_made(box, time, int(worth(time) / least)) if worth(time) / least <= 8 else 0
            if told == 0:
                continue
            seen.add(told is None)
            with self.subTest(box=box, time=time):
                if told is None:
                    self.assert_refused("NoSum", made_of, box, time)
                else:
                    self.assertEqual(made_of(box, time), told)
        self.assertEqual(seen, {True, False})

    def test_nothing_is_changed_and_the_list_is_the_askers_own(self):
        box = [(1, 2), (2, 1), (1, 1)]
        told = made_of(box=box, time=(7, 2))
        told.clear()
        self.assertEqual(made_of(box, (7, 2)), [(2, 1), (1, 1), (1, 2)])
        self.assert_refused("NoSum", made_of, box, (1, 3))
        self.assertEqual(box, [(1, 2), (2, 1), (1, 1)])


if __name__ == "__main__":
    unittest.main()
