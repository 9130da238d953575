"""How far posts are apart [12], thinned nets [13], nets that play alike [14]."""

import copy
import random
import unittest
from fractions import Fraction

from helpers import chance_net, ends_of, told_of, worth
from tilefall.falls import fall_moments
from tilefall.thins import apart_at, far_from, thinned

ROW = [("a", "b", (1, 1)), ("b", "c", (1, 2)), ("d", "c", (2, 1))]
GREAT = 10 ** 59 + 7


def slow_fars(net):
    """The least sums between all posts, by letting one post after another lie between."""
    posts = ends_of(net)
    far = {(one, other): Fraction(0) if one == other else None for one in posts for other in posts}
    for one, other, time in net:
        for pair in ((one, other), (other, one)):
            if far[pair] is None or worth(time) < far[pair]:
                far[pair] = worth(time)
    for amid in posts:
        for one in posts:
            for other in posts:
                if far[one, amid] is not None and far[amid, other] is not None:
                    around = far[one, amid] + far[amid, other]
                    if far[one, other] is None or around < far[one, other]:
                        far[one, other] = around
    return far


def nets(count, seed):
    source = random.Random(seed)
    for turn in range(count):
        yield chance_net(source, posts=6, runs=9)


class FarFrom(unittest.TestCase):
    def test_ordinary(self):
        for one, other, told in (
            ("a", "b", (1, 1)), ("b", "a", (1, 1)), ("a", "c", (3, 2)), ("a", "d", (7, 2)), ("d", "a", (7, 2)),
            ("d", "b", (5, 2)),
        ):
            with self.subTest(one=one, other=other):
                self.assertEqual(far_from(ROW, one, other), told)

    def test_of_a_post_from_itself(self):
        for post in "abcd":
            self.assertEqual(far_from(ROW, post, post), (0, 1))

    def test_of_what_is_no_post_of_the_net(self):
        for one, other in (("a", "x"), ("x", "a"), ("x", "y"), ("x", "x"), ("a.a", "a")):
            with self.subTest(one=one, other=other):
                self.assertIsNone(far_from(ROW, one, other))

    def test_where_nothing_leads(self):
        net = ROW + [("x", "y", (1, 1))]
        self.assertIsNone(far_from(net, "a", "x"))
        self.assertIsNone(far_from(net, "y", "d"))
        self.assertEqual(far_from(net, "y", "x"), (1, 1))

    def test_of_sixty_figures(self):
        net = [("a", "b", (1, GREAT)), ("b", "c", (GREAT, 3)), ("a", "c", (GREAT, 2))]
        self.assertEqual(far_from(net, "a", "c"), told_of(Fraction(1, GREAT) + Fraction(GREAT, 3)))

    def test_of_every_two_posts_of_small_nets(self):
        for net in nets(100, 14):
            far = slow_fars(net)
            for one, other in far:
                with self.subTest(net=net, one=one, other=other):
                    self.assertEqual(far_from(net, one, other), told_of(far[one, other]))
                    self.assertEqual(far_from(net=net, one=other, other=one), told_of(far[one, other]))

    def test_nothing_is_changed(self):
        net = copy.deepcopy(ROW)
        far_from(net, "a", "d")
        self.assertEqual(net, ROW)


class Thinned(unittest.TestCase):
    def test_one_run(self):
        self.assertEqual(thinned([("a", "b", (3, 1))]), [0])

    def test_runs_between_the_same_posts(self):
        for times, told in (
            (((1, 1), (1, 1)), [0]), (((1, 1), (2, 1)), [0]), (((2, 1), (1, 1)), [1]), (((1, 1), (1, 1), (1, 1)), [0]),
            (((2, 1), (1, 1), (1, 1)), [1]), (((3, 1), (2, 1), (1, 1)), [2]),
        ):
            with self.subTest(times=times):
                net = [("a", "b", time) if number % 2 else ("b", "a", time) for number, time in enumerate(times)]
                self.assertEqual(thinned(net), told)

    def test_a_run_whose_time_is_that_of_the_way_around_or_nearly(self):
        little = Fraction(1, GREAT)
        around = Fraction(3, 2)
        for time, needless in ((around, True), (around - little, False), (around + little, True)):
            for place in range(3):
                with self.subTest(time=time, place=place):
                    net = [("a", "b", (1, 1)), ("b", "c", (1, 2))]
                    net.insert(place, ("c", "a", told_of(time)))
                    expected = [number for number in range(3) if number != place or not needless]
                    self.assertEqual(thinned(net), expected)

    def test_gone_through_from_the_last_to_the_first(self):
        # Each run of this ring can be spared, but not two that are alike.
        net = [("a", "b", (1, 1)), ("b", "a", (1, 1)), ("b", "c", (1, 1)), ("c", "b", (1, 1))]
        self.assertEqual(thinned(net), [0, 2])
        self.assertEqual(thinned(list(reversed(net))), [0, 2])

    def test_posts_that_nothing_joins(self):
        self.assertEqual(thinned([("a", "b", (1, 1)), ("c", "d", (9, 1)), ("d", "c", (8, 1))]), [0, 2])

    def test_what_is_left_plays_as_before_and_none_can_be_spared(self):
        for net in nets(120, 15):
            with self.subTest(net=net):
                left = thinned(net)
                self.assertEqual(left, sorted(set(left)))
                rest = [net[number] for number in left]
                self.assertEqual(slow_fars(rest), slow_fars(net))
                for post in ends_of(net):
                    pushes = [(post, (1, 2))]
                    self.assertEqual(fall_moments(rest, pushes), fall_moments(net, pushes))
                for number in range(len(rest)):
                    fewer = rest[:number] + rest[number + 1:]
                    self.assertNotEqual(slow_fars(fewer), slow_fars(net))

    def test_against_the_going_through(self):
        for net in nets(120, 16):
            left = list(range(len(net)))
            for number in reversed(range(len(net))):
                others = [kept for kept in left if kept != number]
                far = slow_fars([net[kept] for kept in others]).get(net[number][:2])
                if far is not None and far <= worth(net[number][2]):
                    left = others
            with self.subTest(net=net):
                self.assertEqual(thinned(net), left)

    def test_120_runs(self):
        source = random.Random(17)
        names = [one + other for one in "abcdefg" for other in "abcdefg"]
        net = [tuple(source.sample(names, 2)) + ((source.randint(1, 99), 101),) for turn in range(120)]
        left = thinned(net)
        self.assertEqual(slow_fars([net[number] for number in left]), slow_fars(net))

    def test_nothing_is_changed_and_the_list_is_the_askers_own(self):
        net = copy.deepcopy(ROW)
        told = thinned(net)
        told.clear()
        self.assertEqual(thinned(net=net), [0, 1, 2])
        self.assertEqual(net, ROW)


class ApartAt(unittest.TestCase):
    def slow_apart(self, one, other):
        posts = sorted(set(ends_of(one)) | set(ends_of(other)))
        far, beyond = slow_fars(one), slow_fars(other)
        for first in posts:
            for second in posts:
                if first != second and far.get((first, second)) != beyond.get((first, second)):
                    return (first, second, told_of(far.get((first, second))), told_of(beyond.get((first, second))))
        return None

    def test_a_net_and_itself_and_itself_thinned(self):
        for net in nets(60, 18):
            with self.subTest(net=net):
                self.assertIsNone(apart_at(net, net))
                self.assertIsNone(apart_at(net, list(reversed(net))))
                rest = [net[number] for number in thinned(net)]
                self.assertIsNone(apart_at(net, rest))
                self.assertIsNone(apart_at(rest, net))

    def test_unlike_posts(self):
        self.assertEqual(apart_at(ROW, ROW[:2]), ("a", "d", (7, 2), None))
        self.assertEqual(apart_at(ROW[:2], ROW), ("a", "d", None, (7, 2)))
        self.assertEqual(apart_at([("a", "b", (1, 1))], [("c", "d", (1, 1))]), ("a", "b", (1, 1), None))
        self.assertEqual(apart_at([("c", "d", (1, 1))], [("b", "a", (1, 1))]), ("a", "b", None, (1, 1)))

    def test_unlike_far_by_a_little(self):
        net = [("a", "b", (1, 1)), ("b", "c", (1, 1))]
        other = [("a", "b", (1, 1)), ("b", "c", (GREAT, GREAT - 1))]
        self.assertEqual(apart_at(net, other), ("a", "c", (2, 1), told_of(1 + Fraction(GREAT, GREAT - 1))))
        self.assertEqual(apart_at(net[1:], other[1:]), ("b", "c", (1, 1), (GREAT, GREAT - 1)))

    def test_the_first_by_one_then_other(self):
        one = [("m", "z", (1, 1)), ("m", "c", (1, 1)), ("b", "x", (1, 1)), ("b", "y", (1, 1))]
        other = [("m", "z", (2, 1)), ("m", "c", (2, 1)), ("b", "x", (1, 1)), ("b", "y", (3, 1))]
        self.assertEqual(apart_at(one, other), ("b", "y", (1, 1), (3, 1)))
        self.assertEqual(apart_at(one[:2], other[:2]), ("c", "m", (1, 1), (2, 1)))

    def test_needless_runs_make_no_difference(self):
        self.assertIsNone(apart_at(ROW, ROW + [("a", "d", (7, 2))]))
        self.assertEqual(apart_at(ROW, ROW + [("a", "d", (3, 1))])[:2], ("a", "d"))

    def test_against_a_slow_one(self):
        source = random.Random(19)
        for turn in range(150):
            one = chance_net(source, posts=4, runs=5)
            other = [run for run in one if source.randint(0, 3)] + chance_net(source, posts=4, runs=1, times=((5, 1),))
            with self.subTest(one=one, other=other):
                self.assertEqual(apart_at(one, other), self.slow_apart(one, other))
                self.assertEqual(apart_at(one=other, other=one), self.slow_apart(other, one))

    def test_nothing_is_changed(self):
        one, other = copy.deepcopy(ROW), copy.deepcopy(ROW[1:])
        apart_at(one, other)
        self.assertEqual((one, other), (ROW, ROW[1:]))


if __name__ == "__main__":
    unittest.main()
