"""Nets made for a show [18], and that they play it [19]."""

import random
import unittest

from helpers import Refuses, told_of, worth
from tilefall.boxes import made_of
from tilefall.falls import fall_moments
from tilefall.makes import made_net
from tilefall.nets import net_of

ONE = [(1, 1)]


class MadeNet(Refuses):
    def test_one_bell(self):
        self.assertEqual(made_net(ONE, {"bell": (1, 1)}), ([("a", "b", (1, 1))], {"bell": "b"}))
        self.assertEqual(
            made_net([(1, 2), (1, 1)], {"bell": (5, 2)}),
            ([("a", "b", (1, 1)), ("b", "c", (1, 1)), ("c", "d", (1, 2))], {"bell": "d"}))

    def test_several_bells_in_any_order(self):
        told = (
            [("a", "b", (1, 1)), ("b", "c", (1, 1)), ("c", "d", (1, 2)), ("d", "e", (1, 1))],
            {"x": "b", "y.z": "d", "w": "e"})
        self.assertEqual(made_net([(1, 2), (1, 1)], {"x": (1, 1), "y.z": (5, 2), "w": (7, 2)}), told)
        self.assertEqual(made_net([(1, 1), (1, 2)], {"w": (7, 2), "y.z": (5, 2), "x": (1, 1)}), told)

    def test_moments_are_gone_through_as_fractions(self):
        told = made_net([(1, 10), (9, 10), (1, 1)], {"x": (9, 10), "y": (2, 1), "z": (1, 1)})
        self.assertEqual(
            told, ([("a", "b", (9, 10)), ("b", "c", (1, 10)), ("c", "d", (1, 1))], {"x": "b", "y": "d", "z": "c"}))

    def test_several_at_one_moment_and_at_nought(self):
        self.assertEqual(
            made_net(ONE, {"x": (0, 1), "y": (1, 1), "z": (1, 1), "w": (0, 1)}),
            ([("a", "b", (1, 1))], {"x": "a", "y": "b", "z": "b", "w": "a"}))

    def test_posts_beyond_z(self):
        net, hung = made_net(ONE, {"x": (25, 1), "y": (26, 1), "z": (52, 1), "w": (120, 1)})
        self.assertEqual(hung, {"x": "z", "y": "ba", "z": "ca", "w": "eq"})
        self.assertEqual(net[24:28], [
            ("y", "z", (1, 1)), ("z", "ba", (1, 1)), ("ba", "bb", (1, 1)), ("bb", "bc", (1, 1))])
        self.assertEqual(len(net), 120)
        self.assertEqual(len(set(run[1] for run in net)), 120)
        self.assertEqual(net[-1], ("ep", "eq", (1, 1)))
        self.assertEqual(net_of(net), net)

    def test_doubled(self):
        one, other = ("a", "b", (2, 1)), ("b", "c", (1, 1))
        for told in (
            made_net([(1, 1), (2, 1)], {"x": (3, 1)}, True), made_net([(1, 1), (2, 1)], {"x": (3, 1)}, double=True),
        ):
            self.assertEqual(told, ([one, one, other, other], {"x": "c"}))
        self.assertEqual(made_net(box=[(1, 1), (2, 1)], show={"x": (3, 1)}, double=False)[0], [one, other])

    def test_just_120_runs_and_more(self):
        self.assertEqual(len(made_net(ONE, {"x": (120, 1)})[0]), 120)
        self.assertEqual(len(made_net(ONE, {"x": (60, 1)}, True)[0]), 120)
        self.assert_refused("TooMany", made_net, ONE, {"x": (121, 1)})
        self.assert_refused("TooMany", made_net, ONE, {"x": (61, 1)}, True)
        self.assert_refused("TooMany", made_net, ONE, {"x": (100, 1), "y": (121, 1)})
        self.assert_refused("TooMany", made_net, ONE, {"x": (300, 1), "y": (1, 1)})

    def test_no_moment_above_nought(self):
        self.assert_refused("NoNet", made_net, ONE, {"x": (0, 1)})
        self.assert_refused("NoNet", made_net, ONE, {"x": (0, 1), "y": (0, 1)}, True)

    def test_no_sum_goes_ahead_of_too_many(self):
        self.assert_refused("NoSum", made_net, ONE, {"x": (1, 2)})
        self.assert_refused("NoSum", made_net, ONE, {"x": (300, 1), "y": (601, 2)})
        self.assert_refused("NoSum", made_net, ONE, {"x": (1, 2), "y": (301, 2), "z": (0, 1)})
        self.assert_refused("NoSum", made_net, ONE, {"x": (61, 1), "y": (123, 2)}, True)
        self.assert_refused("NoSum", made_net, [(2, 1)], {"x": (2, 1), "y": (3, 1), "z": (5, 1)})

    def chance_shows(self):
        source = random.Random(22)
        for turn in range(60):
            box = source.sample([(1, 1), (2, 1), (1, 2), (3, 2), (5, 1)], source.randint(1, 3)) + [(1, 4)]
            show = {}
            for bell in ("x", "y.z", "w", "v")[:source.randint(1, 4)]:
                show[bell] = told_of(worth((source.randint(0, 24), 1)) / 4)
            if any(moment != (0, 1) for moment in show.values()):
                yield box, show

    def test_by_17_from_moment_to_moment(self):
        for box, show in self.chance_shows():
            with self.subTest(box=box, show=show):
                times, ahead = [], 0
                for moment in sorted(set(worth(each) for each in show.values()) - {0}):
                    times.extend(made_of(box, told_of(moment - ahead)))
                    ahead = moment
                self.assertEqual([run[2] for run in made_net(box, show)[0]], times)

    def test_each_bell_s_post_falls_at_its_moment(self):
        for box, show in self.chance_shows():
            net, hung = made_net(box, show)
            with self.subTest(box=box, show=show):
                moments = fall_moments(net, [("a", (0, 1))])
                self.assertEqual({bell: moments[hung[bell]] for bell in hung}, show)

    def test_a_doubled_one_plays_with_any_one_run_out(self):
        for box, show in self.chance_shows():
            net, hung = made_net(box, show, True)
            self.assertEqual(hung, made_net(box, show)[1])
            for number in range(len(net)):
                with self.subTest(box=box, show=show, number=number):
                    moments = fall_moments(net, [("a", (0, 1))], [(number, (0, 1))])
                    self.assertEqual({bell: moments[hung[bell]] for bell in hung}, show)
                    rest = fall_moments(net[:number] + net[number + 1:], [("a", (0, 1))])
                    self.assertEqual({bell: rest[hung[bell]] for bell in hung}, show)

    def test_nothing_is_changed_and_what_is_told_is_the_askers_own(self):
        box, show = [(1, 1), (1, 2)], {"x": (3, 2), "y": (0, 1)}
        told = made_net(box, show)
        told[0].clear()
        told[1].clear()
        self.assertEqual(
            made_net(box, show), ([("a", "b", (1, 1)), ("b", "c", (1, 2))], {"x": "c", "y": "a"}))
        self.assert_refused("NoSum", made_net, box, {"x": (1, 3)})
        self.assert_refused("TooMany", made_net, box, {"x": (190, 1)})
        self.assertEqual((box, show), ([(1, 1), (1, 2)], {"x": (3, 2), "y": (0, 1)}))


if __name__ == "__main__":
    unittest.main()
