"""Runs that keep a bell still, the least of them, and as many ways [11]."""

import copy
import itertools
import random
import unittest

from helpers import NAMES, Refuses, chance_net, end_beyond
from tilefall.cuts import kept_still, least_cut

T = (1, 1)
DIAMOND = [("a", "b", T), ("a", "c", T), ("b", "d", T), ("c", "d", T), ("b", "c", T)]


def slow_kept_still(net, pushed, bell, runs):
    reached = set(pushed)
    for turn in net:
        for number, run in enumerate(net):
            if number not in runs and (run[0] in reached or run[1] in reached):
                reached |= set(run[:2])
    return bell not in reached


class KeptStill(Refuses):
    def test_ordinary(self):
        for runs, told in (
            ([], False), ([0], False), ([0, 1], True), ([1, 0], True), ([2, 3], True), ([0, 3], False),
            ([0, 3, 4], True),
            ([1, 2], False), ([4], False), ([0, 0, 1, 1], True), ([0, 0], False), ([4, 3, 2, 1, 0], True),
        ):
            with self.subTest(runs=runs):
                self.assertIs(kept_still(DIAMOND, ["a"], "d", runs), told)

    def test_several_pushed_posts(self):
        self.assertIs(kept_still(DIAMOND, ["a", "c"], "d", [0, 1]), False)
        self.assertIs(kept_still(DIAMOND, ["c", "a"], "d", [0, 3, 4]), True)
        self.assertIs(kept_still(DIAMOND, ["a", "a"], "d", [0, 1]), True)

    def test_what_is_no_post_of_the_net(self):
        self.assertIs(kept_still(DIAMOND, ["x"], "d", []), True)
        self.assertIs(kept_still(DIAMOND, ["a"], "x", []), True)
        self.assertIs(kept_still(DIAMOND, ["x", "a"], "d", []), False)
        self.assertIs(kept_still(DIAMOND, ["x", "y"], "z", []), True)

    def test_a_pushed_bell_is_refused(self):
        for pushed in (["d"], ["a", "d"], ["d", "a"], ["x", "d", "d"]):
            for runs in ([], [0, 1], [0, 1, 2, 3, 4]):
                with self.subTest(pushed=pushed, runs=runs):
                    self.assert_refused("NoBell", kept_still, DIAMOND, pushed, "d", runs)
        self.assert_refused("NoBell", kept_still, DIAMOND, ["x"], "x", [])

    def test_against_a_slow_one(self):
        source = random.Random(11)
        for turn in range(200):
            net = chance_net(source)
            pushed = [source.choice(NAMES) for turn in range(source.randint(1, 3))]
            bell = source.choice([name for name in NAMES if name not in pushed])
            runs = [source.randrange(len(net)) for turn in range(source.randint(0, 5))]
            with self.subTest(net=net, pushed=pushed, bell=bell, runs=runs):
                self.assertIs(kept_still(net, pushed, bell, runs), slow_kept_still(net, pushed, bell, runs))


class LeastCut(Refuses):
    def assert_cut(self, net, pushed, bell):
        told = least_cut(net, pushed, bell)
        self.assertIs(type(told), tuple)
        cut, ways = told
        self.assertEqual(cut, sorted(set(cut)))
        self.assertTrue(all(0 <= number < len(net) for number in cut))
        self.assertTrue(slow_kept_still(net, pushed, bell, cut))
        self.assertIs(kept_still(net, pushed, bell, cut), True)
        self.assertEqual(len(ways), len(cut))
        gone = [number for way in ways for number in way]
        self.assertEqual(len(gone), len(set(gone)))
        for way in ways:
            self.assertIs(type(way), list)
            self.assertTrue(self.leads(net, pushed, bell, way), way)
        return len(cut)

    def leads(self, net, pushed, bell, way):
        for start in pushed:
            at = start
            for number in way:
                at = end_beyond(net[number], at) if at in net[number][:2] else None
            if at == bell and way:
                return True
        return False

    def test_ordinary(self):
        self.assertEqual(self.assert_cut(DIAMOND, ["a"], "d"), 2)
        self.assertEqual(self.assert_cut(DIAMOND, ["b"], "c"), 3)
        self.assertEqual(self.assert_cut(DIAMOND, ["a", "b"], "d"), 2)
        self.assertEqual(least_cut([("a", "b", T)], ["b"], "a"), ([0], [[0]]))
        self.assertEqual(self.assert_cut([("a", "b", T), ("b", "c", T), ("b", "c", T)], ["c"], "a"), 1)

    def test_runs_between_the_same_posts(self):
        net = [("a", "b", T), ("b", "a", T), ("a", "b", (5, 1)), ("b", "c", T), ("c", "b", T)]
        self.assertEqual(self.assert_cut(net, ["a"], "b"), 3)
        self.assertEqual(self.assert_cut(net, ["a"], "c"), 2)

    def test_where_a_way_must_be_turned_aside(self):
        # The shortest way uses the run between b and e, which neither of the two ways may then use.
        net = [
            ("a", "b", T), ("b", "e", T), ("e", "z", T), ("b", "f", T), ("f", "g", T), ("g", "z", T), ("a", "c", T),
            ("c", "d", T), ("d", "e", T),
        ]
        self.assertEqual(self.assert_cut(net, ["a"], "z"), 2)

    def test_where_a_run_that_was_given_up_is_used_again(self):
        pairs = "fe af cf ef bf db fb ab dc ac ae".split()
        self.assertEqual(self.assert_cut([(one, other, T) for one, other in pairs], ["a"], "b"), 4)

    def test_where_nothing_leads(self):
        net = [("a", "b", T), ("c", "d", T)]
        for pushed, bell in ((["a"], "c"), (["a", "b"], "d"), (["x"], "a"), (["a"], "x"), (["x", "y"], "z")):
            with self.subTest(pushed=pushed, bell=bell):
                self.assertEqual(least_cut(net, pushed, bell), ([], []))

    def test_posts_that_are_none_of_the_net_among_the_pushed(self):
        self.assertEqual(self.assert_cut(DIAMOND, ["x", "a", "y"], "d"), 2)

    def test_a_pushed_bell_is_refused(self):
        for pushed in (["d"], ["a", "d"], ["d", "a", "d"]):
            with self.subTest(pushed=pushed):
                self.assert_refused("NoBell", least_cut, DIAMOND, pushed, "d")
        self.assert_refused("NoBell", least_cut, DIAMOND, ["x"], "x")

    def test_no_fewer_runs_keep_it_still(self):
        source = random.Random(12)
        for turn in range(150):
            net = chance_net(source, posts=6, runs=9)
            pushed = [source.choice(NAMES) for turn in range(source.randint(1, 3))]
            bell = source.choice([name for name in NAMES if name not in pushed])
            with self.subTest(net=net, pushed=pushed, bell=bell):
                count = self.assert_cut(net, pushed, bell)
                for runs in itertools.combinations(range(len(net)), count - 1) if count else ():
                    self.assertFalse(slow_kept_still(net, pushed, bell, runs))

    def test_great_nets(self):
        source = random.Random(13)
        names = [one + other for one in "abcdef" for other in "abcdef"]
        for turn in range(20):
            net = [tuple(source.sample(names, 2)) + (T,) for turn in range(120)]
            pushed = source.sample(names[1:], 4)
            with self.subTest(turn=turn):
                self.assert_cut(net, pushed, names[0])

    def test_a_grid_of_posts(self):
        net = []
        for x in range(8):
            for y in range(7):
                net.append(("abcdefgh"[x] + "abcdefgh"[y], "abcdefgh"[x] + "abcdefgh"[y + 1], T))
                net.append(("abcdefgh"[y] + "abcdefgh"[x], "abcdefgh"[y + 1] + "abcdefgh"[x], T))
        self.assertEqual(self.assert_cut(net, ["aa"], "hh"), 2)
        self.assertEqual(self.assert_cut(net, ["cc", "ff"], "dd"), 4)
        self.assertEqual(self.assert_cut(net, ["aa", "ah", "ha"], "hh"), 2)

    def test_nothing_is_changed_and_the_lists_are_the_askers_own(self):
        net, pushed, runs = list(DIAMOND), ["a"], [1, 0, 1]
        kept = copy.deepcopy((net, pushed, runs))
        kept_still(net, pushed, "d", runs)
        told = least_cut(net, pushed, "d")
        again = copy.deepcopy(told)
        told[0].clear()
        told[1][0].clear()
        told[1].clear()
        self.assertEqual(least_cut(net, pushed, "d"), again)
        self.assertEqual((net, pushed, runs), kept)
        self.assert_refused("NoBell", least_cut, net, pushed, "a")
        self.assert_refused("NoBell", kept_still, net, pushed, "a", runs)
        self.assertEqual((net, pushed, runs), kept)

    def test_the_arguments_names(self):
        self.assertEqual(least_cut(net=[("a", "b", T)], pushed=["a"], bell="b"), ([0], [[0]]))
        self.assertIs(kept_still(net=[("a", "b", T)], pushed=["a"], bell="b", runs=[0]), True)


if __name__ == "__main__":
    unittest.main()
