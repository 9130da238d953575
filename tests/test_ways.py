"""Ways to posts that fall [8]."""

import copy
import unittest

from helpers import chances, end_beyond, ends_of
from tilefall.falls import fall_moments
from tilefall.shares import added
from tilefall.ways import way_to

ROW = [("a", "b", (1, 1)), ("c", "b", (1, 2)), ("c", "d", (2, 1))]


class WayTo(unittest.TestCase):
    def assert_way(self, net, pushes, takings, post):
        moments = fall_moments(net, pushes, takings)
        told = way_to(net, pushes, post, takings)
        if moments[post] is None:
            self.assertIsNone(told)
            return
        self.assertIs(type(told), tuple)
        self.assertEqual(len(told), 2)
        self.assertIs(type(told[1]), list)
        self.assertIn((told[0], moments[told[0]]), pushes)
        at = told[0]
        for number in told[1]:
            self.assertIn(at, net[number][:2])
            beyond = end_beyond(net[number], at)
            self.assertEqual(added(moments[at], net[number][2]), moments[beyond])
            at = beyond
        self.assertEqual(at, post)

    def test_along_a_row(self):
        self.assertEqual(way_to(ROW, [("a", (0, 1))], "d"), ("a", [0, 1, 2]))
        self.assertEqual(way_to(ROW, [("d", (0, 1))], "a"), ("d", [2, 1, 0]))
        self.assertEqual(way_to(ROW, [("a", (0, 1)), ("d", (0, 1))], "c"), ("a", [0, 1]))

    def test_of_a_pushed_post_without_runs(self):
        self.assertEqual(way_to(ROW, [("b", (3, 1))], "b"), ("b", []))
        self.assertEqual(way_to(ROW, [("a", (0, 1)), ("d", (0, 1))], "d"), ("d", []))

    def test_of_a_post_that_is_pushed_behind_its_fall(self):
        self.assertEqual(way_to(ROW, [("b", (2, 1)), ("a", (0, 1))], "b"), ("a", [0]))

    def test_of_a_post_that_does_not_fall(self):
        self.assertIsNone(way_to(ROW, [], "a"))
        self.assertIsNone(way_to(ROW + [("x", "y", (1, 1))], [("a", (0, 1))], "x"))
        self.assertIsNone(way_to(ROW, [("a", (0, 1))], "b", [(0, (1, 2))]))

    def test_takings_at_the_end_named_and_none(self):
        self.assertEqual(way_to(ROW, [("a", (0, 1))], "b", takings=[(0, (1, 1))]), ("a", [0]))
        self.assertEqual(way_to(net=ROW, pushes=[("a", (0, 1))], post="b", takings=None), ("a", [0]))

    def test_the_quicker_of_two_runs_and_the_other_when_it_is_out(self):
        net = [("a", "b", (2, 1)), ("a", "b", (1, 1))]
        self.assertEqual(way_to(net, [("a", (0, 1))], "b"), ("a", [1]))
        self.assertEqual(way_to(net, [("a", (0, 1))], "b", [(1, (1, 2))]), ("a", [0]))

    def test_of_each_post_of_small_nets(self):
        for net, pushes, takings in chances(300, 7):
            for post in ends_of(net):
                with self.subTest(net=net, pushes=pushes, takings=takings, post=post):
                    self.assert_way(net, pushes, takings, post)
                    self.assert_way(net, pushes, None, post)

    def test_nothing_is_changed_and_the_list_is_the_askers_own(self):
        pushes, takings = [("a", (0, 1))], [(2, (9, 1))]
        kept = copy.deepcopy((ROW, pushes, takings))
        told = way_to(ROW, pushes, "d", takings)
        told[1].clear()
        self.assertEqual(way_to(ROW, pushes, "d", takings), ("a", [0, 1, 2]))
        self.assertEqual((ROW, pushes, takings), kept)


if __name__ == "__main__":
    unittest.main()
