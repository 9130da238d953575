"""Pushes, takings and the moments at which posts fall [6], [7]; what [2] says of what is handed in and told."""

import copy
import math
import unittest

from helpers import chances, slow_moments, told_of, worth
from tilefall.falls import fall_moments

ROW = [("a", "b", (1, 1)), ("b", "c", (1, 2)), ("c", "d", (2, 1))]
GREAT = 10 ** 59 + 7
GREATER = 10 ** 60 - 1


class FallMoments(unittest.TestCase):
    def test_no_pushes(self):
        self.assertEqual(fall_moments(ROW, []), {"a": None, "b": None, "c": None, "d": None})

    def test_one_push(self):
        self.assertEqual(
            fall_moments(ROW, [("a", (0, 1))]), {"a": (0, 1), "b": (1, 1), "c": (3, 2), "d": (7, 2)})
        self.assertEqual(
            fall_moments(ROW, [("c", (1, 3))]), {"a": (11, 6), "b": (5, 6), "c": (1, 3), "d": (7, 3)})

    def test_several_pushes(self):
        self.assertEqual(
            fall_moments(ROW, [("a", (0, 1)), ("d", (1, 4))]), {"a": (0, 1), "b": (1, 1), "c": (3, 2), "d": (1, 4)})
        self.assertEqual(
            fall_moments(ROW, [("a", (5, 1)), ("d", (0, 1))]), {"a": (7, 2), "b": (5, 2), "c": (2, 1), "d": (0, 1)})

    def test_several_pushes_of_one_post_in_any_order(self):
        told = {"a": (1, 2), "b": (3, 2), "c": (2, 1), "d": (4, 1)}
        moments = ((2, 1), (1, 2), (3, 1))
        for first in moments:
            for second in moments:
                for third in moments:
                    if (1, 2) in (first, second, third):
                        with self.subTest(first=first, second=second, third=third):
                            self.assertEqual(fall_moments(ROW, [("a", first), ("a", second), ("a", third)]), told)

    def test_a_push_behind_the_fall_changes_nothing(self):
        self.assertEqual(
            fall_moments(ROW, [("a", (0, 1)), ("c", (3, 2))]), fall_moments(ROW, [("a", (0, 1))]))
        self.assertEqual(
            fall_moments(ROW, [("a", (0, 1)), ("c", (9, 1))]), fall_moments(ROW, [("a", (0, 1))]))

    def test_several_runs_between_two_posts(self):
        net = [("a", "b", (3, 1)), ("b", "a", (1, 1)), ("a", "b", (2, 1))]
        self.assertEqual(fall_moments(net, [("a", (1, 1))]), {"a": (1, 1), "b": (2, 1)})
        self.assertEqual(fall_moments(net, [("a", (1, 1))], [(1, (3, 2))]), {"a": (1, 1), "b": (3, 1)})

    def test_many_small_runs_are_ahead_of_one_great_run(self):
        net = [("a", "d", (4, 1))] + ROW
        self.assertEqual(fall_moments(net, [("a", (0, 1))])["d"], (7, 2))
        net = [("a", "d", (3, 1))] + ROW
        self.assertEqual(fall_moments(net, [("a", (0, 1))])["d"], (3, 1))

    def test_posts_to_which_nothing_leads(self):
        net = [("a", "b", (1, 1)), ("c", "d", (1, 1))]
        self.assertEqual(fall_moments(net, [("b", (0, 1))]), {"a": (1, 1), "b": (0, 1), "c": None, "d": None})

    def test_takings_ahead_of_at_and_behind_the_end(self):
        for moment, told in (
            ((0, 1), None), ((1, 2), None), ((99, 100), None), ((1, 1), (1, 1)), ((101, 100), (1, 1)), ((7, 1), (1, 1)),
        ):
            with self.subTest(moment=moment):
                self.assertEqual(
                    fall_moments([("a", "b", (1, 1))], [("a", (0, 1))], [(0, moment)]), {"a": (0, 1), "b": told})

    def test_of_several_takings_of_one_run_the_least_counts(self):
        for takings in (
            [(0, (1, 2)), (0, (9, 1))], [(0, (9, 1)), (0, (1, 2))], [(0, (2, 1)), (0, (1, 2)), (0, (1, 1))],
        ):
            with self.subTest(takings=takings):
                self.assertEqual(fall_moments(ROW, [("a", (0, 1))], takings)["b"], None)
        for takings in ([(0, (1, 1)), (0, (9, 1))], [(0, (9, 1)), (0, (1, 1))]):
            with self.subTest(takings=takings):
                self.assertEqual(fall_moments(ROW, [("a", (0, 1))], takings)["b"], (1, 1))

    def test_a_taking_makes_a_fall_go_around(self):
        net = ROW + [("a", "d", (9, 1))]
        self.assertEqual(
            fall_moments(net, [("a", (0, 1))], [(1, (5, 4))]), {"a": (0, 1), "b": (1, 1), "c": (11, 1), "d": (9, 1)})

    def test_a_later_push_goes_into_a_run_ahead_of_its_taking_alone(self):
        self.assertEqual(fall_moments(ROW, [("b", (1, 1))], [(1, (3, 2)), (0, (3, 2))])["c"], (3, 2))
        self.assertEqual(fall_moments(ROW, [("b", (1, 1))], [(1, (3, 2)), (0, (3, 2))])["a"], None)

    def test_takings_may_be_left_out_none_named_or_empty(self):
        told = fall_moments(ROW, [("a", (0, 1))])
        self.assertEqual(fall_moments(ROW, [("a", (0, 1))], None), told)
        self.assertEqual(fall_moments(ROW, [("a", (0, 1))], []), told)
        self.assertEqual(fall_moments(net=ROW, pushes=[("a", (0, 1))], takings=None), told)
        self.assertEqual(fall_moments(ROW, [("a", (0, 1))], takings=[(0, (0, 1))])["b"], None)

    def test_sixty_figures(self):
        net = [("a", "b", (GREATER, GREAT)), ("b", "c", (1, GREATER)), ("c", "d", (GREAT, 1)), ("a", "d", (GREATER, 1))]
        told = fall_moments(net, [("a", (1, GREAT))])
        b = worth((1, GREAT)) + worth((GREATER, GREAT))
        c = b + worth((1, GREATER))
        d = c + GREAT
        self.assertEqual(told, {"a": (1, GREAT), "b": told_of(b), "c": told_of(c), "d": told_of(d)})
        self.assertEqual(fall_moments(net, [("a", (1, GREAT))], [(1, told_of(c))]), told)
        ahead = (c.numerator * 10 ** 9 - 1, c.denominator * 10 ** 9)
        self.assertEqual(math.gcd(*ahead), 1)
        late = told_of(GREATER + worth((1, GREAT)))
        self.assertEqual(fall_moments(net, [("a", (1, GREAT))], [(1, ahead)])["d"], late)

    def test_120_runs_of_sixty_figures_each(self):
        names = ["p" + one + other for one in "abcdefghijk" for other in "abcdefghijk"]
        net = [(names[k], names[k + 1], (GREAT + k, GREATER - 2 * k)) for k in range(120)]
        net = [(one, other, told_of(worth(time))) for one, other, time in net]
        told = fall_moments(net, [(names[0], (0, 1))])
        self.assertEqual(worth(told[names[120]]), sum(worth(run[2]) for run in net))

    def test_against_all_ways(self):
        for net, pushes, takings in chances(400, 5):
            with self.subTest(net=net, pushes=pushes, takings=takings):
                told = fall_moments(net, pushes, takings)
                slow = slow_moments(net, pushes, takings)
                self.assertEqual(told, {post: told_of(slow[post]) for post in slow})


class WhatIsHandedInAndTold(unittest.TestCase):
    def test_nothing_is_changed(self):
        for net, pushes, takings in chances(30, 6):
            kept = copy.deepcopy((net, pushes, takings))
            fall_moments(net, pushes, takings)
            self.assertEqual((net, pushes, takings), kept)

    def test_the_dict_is_the_askers_own(self):
        pushes = [("a", (0, 1))]
        told = fall_moments(ROW, pushes)
        kept = dict(told)
        told.clear()
        again = fall_moments(ROW, pushes)
        self.assertEqual(again, kept)
        pushes.clear()
        self.assertEqual(again, kept)
        self.assertIs(type(again), dict)


if __name__ == "__main__":
    unittest.main()
