"""What stands in a run at a moment [9], and how a run ends [10]."""

import copy
import math
import unittest
from fractions import Fraction

from helpers import chances, slow_moments, told_of, worth
from tilefall.tiles import ending_of, standing_in

RUN = [("a", "b", (2, 1))]
FROM_A = [("a", (1, 1))]
FROM_B = [("b", (1, 1))]
BOTH = [("a", (1, 1)), ("b", (2, 1))]
GREAT = 10 ** 59 + 7


class StandingIn(unittest.TestCase):
    def assert_standing(self, pushes, takings, rows):
        for moment, told in rows:
            with self.subTest(moment=moment):
                self.assertEqual(standing_in(RUN, pushes, 0, moment, takings), told)

    def test_a_run_into_which_nothing_falls(self):
        self.assert_standing([], None, (((0, 1), ((0, 1), (1, 1))), ((99, 1), ((0, 1), (1, 1)))))

    def test_a_fall_from_the_one_end(self):
        self.assert_standing(FROM_A, None, (
            ((0, 1), ((0, 1), (1, 1))), ((1, 1), ((0, 1), (1, 1))), ((3, 2), ((1, 4), (1, 1))),
            ((2, 1), ((1, 2), (1, 1))), ((299, 100), ((199, 200), (1, 1))), ((3, 1), None), ((9, 1), None),
        ))

    def test_a_fall_from_the_other_end(self):
        self.assert_standing(FROM_B, None, (
            ((0, 1), ((0, 1), (1, 1))), ((1, 1), ((0, 1), (1, 1))), ((3, 2), ((0, 1), (3, 4))),
            ((2, 1), ((0, 1), (1, 2))), ((299, 100), ((0, 1), (1, 200))), ((3, 1), None), ((9, 1), None),
        ))

    def test_falls_from_both_ends_until_they_meet(self):
        self.assert_standing(BOTH, None, (
            ((1, 1), ((0, 1), (1, 1))), ((3, 2), ((1, 4), (1, 1))), ((2, 1), ((1, 2), (1, 1))),
            ((9, 4), ((5, 8), (7, 8))), ((249, 100), ((149, 200), (151, 200))), ((5, 2), None), ((3, 1), None),
            ((4, 1), None),
        ))

    def test_ahead_of_at_and_behind_a_taking(self):
        self.assert_standing(FROM_A, [(0, (2, 1))], (
            ((0, 1), ((0, 1), (1, 1))), ((199, 100), ((99, 200), (1, 1))), ((2, 1), None), ((201, 100), None),
            ((9, 1), None),
        ))
        self.assert_standing([], [(0, (2, 1)), (0, (1, 1))], (
            ((0, 1), ((0, 1), (1, 1))), ((99, 100), ((0, 1), (1, 1))), ((1, 1), None), ((3, 1), None),
        ))
        self.assert_standing(FROM_A, [(0, (0, 1))], (((0, 1), None), ((1, 1), None), ((3, 1), None)))

    def test_a_taking_of_another_run_takes_nothing_here(self):
        net = RUN + [("b", "c", (1, 1))]
        self.assertEqual(standing_in(net, FROM_A, 0, (2, 1), [(1, (0, 1))]), ((1, 2), (1, 1)))
        self.assertEqual(standing_in(net, FROM_A, 1, (2, 1), [(1, (0, 1))]), None)

    def test_takings_elsewhere_keep_a_fall_away(self):
        net = RUN + [("b", "c", (1, 1))]
        self.assertEqual(standing_in(net, FROM_A, 1, (7, 2)), ((1, 2), (1, 1)))
        self.assertEqual(standing_in(net, FROM_A, 1, (7, 2), takings=[(0, (2, 1))]), ((0, 1), (1, 1)))
        self.assertEqual(standing_in(net, FROM_A, 1, (7, 2), takings=[(0, (3, 1))]), ((1, 2), (1, 1)))

    def test_the_shares_of_sixty_figures_are_in_lowest_terms(self):
        net = [("a", "b", (GREAT, 3))]
        told = standing_in(net, [("a", (0, 1)), ("b", (0, 1))], 0, (GREAT, 9))
        self.assertEqual(told, ((1, 3), (2, 3)))

    def test_against_the_fall_of_each_share(self):
        shares = [Fraction(top, 24) for top in range(25)]
        for net, pushes, takings in chances(60, 8):
            moments = slow_moments(net, pushes, takings)
            for number, run in enumerate(net):
                for quarters in range(0, 33, 3):
                    moment = Fraction(quarters, 4)
                    with self.subTest(net=net, pushes=pushes, takings=takings, number=number, moment=moment):
                        told = standing_in(net, pushes, number, told_of(moment), takings)
                        out = any(taken == number and worth(when) <= moment for taken, when in takings)
                        if told is None:
                            standing = []
                        else:
                            for share in told:
                                self.assertEqual(math.gcd(*share), 1)
                            self.assertLess(worth(told[0]), worth(told[1]))
                            standing = [share for share in shares if worth(told[0]) < share < worth(told[1])]
                        one, other = moments[run[0]], moments[run[1]]
                        time = worth(run[2])
                        expected = [
                            share for share in shares[1:-1]
                            if not out and (one is None or one + share * time > moment)
                            and (other is None or other + (1 - share) * time > moment)
                        ]
                        whole = [share for share in standing if 0 < share < 1]
                        # A share just at the edge of what stands is passed at this very moment.
                        self.assertEqual(whole, expected)


class EndingOf(unittest.TestCase):
    def assert_endings(self, net, pushes, rows):
        for takings, told in rows:
            with self.subTest(takings=takings):
                self.assertEqual(ending_of(net, pushes, 0, takings), told)

    def test_stands(self):
        self.assertEqual(ending_of(RUN, [], 0), ("stands",))
        self.assertEqual(ending_of(RUN + [("c", "d", (1, 1))], [("c", (0, 1))], 0, [(1, (0, 1))]), ("stands",))

    def test_swept_from_either_end(self):
        self.assertEqual(ending_of(RUN, FROM_A, 0), ("swept", "a", (3, 1)))
        self.assertEqual(ending_of(RUN, FROM_B, 0), ("swept", "b", (3, 1)))

    def test_swept_where_the_post_beyond_falls_then_otherwise(self):
        self.assertEqual(ending_of(RUN, FROM_A + [("b", (3, 1))], 0), ("swept", "a", (3, 1)))
        self.assertEqual(ending_of(RUN, FROM_B + [("a", (3, 1))], 0), ("swept", "b", (3, 1)))
        self.assertEqual(ending_of(RUN, FROM_A + [("b", (9, 1))], 0), ("swept", "a", (3, 1)))
        net = RUN + [("a", "b", (2, 1)), ("a", "c", (1, 1)), ("c", "b", (1, 1))]
        self.assertEqual([ending_of(net, FROM_A, number) for number in range(4)], [
            ("swept", "a", (3, 1)), ("swept", "a", (3, 1)), ("swept", "a", (2, 1)), ("swept", "c", (3, 1))])

    def test_met_with_moment_and_share_from_the_one_end(self):
        self.assertEqual(ending_of(RUN, BOTH, 0), ("met", (5, 2), (3, 4)))
        self.assertEqual(ending_of(RUN, [("a", (2, 1)), ("b", (1, 1))], 0), ("met", (5, 2), (1, 4)))
        self.assertEqual(ending_of(RUN, [("a", (0, 1)), ("b", (0, 1))], 0), ("met", (1, 1), (1, 2)))
        self.assertEqual(ending_of(RUN, FROM_A + [("b", (299, 100))], 0), ("met", (599, 200), (399, 400)))

    def test_met_in_the_slower_of_two_runs(self):
        net = [("a", "b", (4, 1)), ("b", "a", (2, 1))]
        self.assertEqual(ending_of(net, [("a", (0, 1))], 0), ("met", (3, 1), (3, 4)))
        self.assertEqual(ending_of(net, [("a", (0, 1))], 1), ("swept", "a", (2, 1)))

    def test_takings_ahead_of_at_and_behind_the_end_of_a_swept_run(self):
        self.assert_endings(RUN, FROM_A, (
            ([(0, (0, 1))], ("taken", (0, 1))), ([(0, (1, 1))], ("taken", (1, 1))), ([(0, (2, 1))], ("taken", (2, 1))),
            ([(0, (299, 100))], ("taken", (299, 100))), ([(0, (3, 1))], ("swept", "a", (3, 1))),
            ([(0, (4, 1))], ("swept", "a", (3, 1))), ([(0, (4, 1)), (0, (2, 1))], ("taken", (2, 1))),
            ([(0, (2, 1)), (0, (4, 1))], ("taken", (2, 1))), ([(0, (4, 1)), (0, (3, 1))], ("swept", "a", (3, 1))),
        ))

    def test_takings_ahead_of_at_and_behind_a_meeting(self):
        self.assert_endings(RUN, BOTH, (
            ([(0, (0, 1))], ("taken", (0, 1))), ([(0, (249, 100))], ("taken", (249, 100))),
            ([(0, (5, 2))], ("met", (5, 2), (3, 4))), ([(0, (9, 1))], ("met", (5, 2), (3, 4))),
        ))

    def test_taken_though_no_fall_comes_or_both_come_later(self):
        self.assert_endings(RUN, [], (([(0, (7, 1))], ("taken", (7, 1))),))
        self.assert_endings(RUN, [("a", (8, 1)), ("b", (8, 1))], (([(0, (7, 1))], ("taken", (7, 1))),))
        self.assert_endings(RUN, [("a", (0, 1)), ("b", (50, 1))], (([(0, (1, 1))], ("taken", (1, 1))),))
        self.assert_endings(RUN, [("b", (0, 1)), ("a", (50, 1))], (([(0, (1, 1))], ("taken", (1, 1))),))

    def test_takings_named_and_none(self):
        self.assertEqual(ending_of(RUN, FROM_A, 0, takings=None), ("swept", "a", (3, 1)))
        self.assertEqual(ending_of(net=RUN, pushes=FROM_A, number=0, takings=[(0, (2, 1))]), ("taken", (2, 1)))
        self.assertEqual(
            standing_in(net=RUN, pushes=FROM_A, number=0, moment=(2, 1), takings=None), ((1, 2), (1, 1)))

    def check_ending(self, net, pushes, takings, number):
        run = net[number]
        moments = slow_moments(net, pushes, takings)
        told = ending_of(net, pushes, number, takings)
        one, other, time = moments[run[0]], moments[run[1]], worth(run[2])

        def standing(moment):
            return standing_in(net, pushes, number, told_of(moment), takings)

        little = Fraction(1, 10 ** 6)
        if told == ("stands",):
            self.assertEqual((one, other), (None, None))
            self.assertNotIn(number, [taken for taken, moment in takings])
            return
        if told[0] == "met":
            self.assertEqual(len(told), 3)
            self.assertTrue(0 < worth(told[2]) < 1)
            self.assertEqual(one + worth(told[2]) * time, worth(told[1]))
            self.assertEqual(other + (1 - worth(told[2])) * time, worth(told[1]))
            ended = worth(told[1])
        elif told[0] == "swept":
            self.assertEqual(len(told), 3)
            self.assertIn(told[1], run[:2])
            ended = worth(told[2])
            self.assertEqual(moments[told[1]] + time, ended)
            self.assertEqual(moments[run[1] if told[1] == run[0] else run[0]], ended)
        else:
            self.assertEqual(told[0], "taken")
            self.assertEqual(len(told), 2)
            ended = worth(told[1])
            self.assertEqual(ended, min(worth(when) for taken, when in takings if taken == number))
        self.assertIsNone(standing(ended))
        if ended > 0:
            self.assertIsNotNone(standing(ended - little))

    def test_against_what_stands(self):
        for net, pushes, takings in chances(300, 9):
            for number in range(len(net)):
                with self.subTest(net=net, pushes=pushes, takings=takings, number=number):
                    self.check_ending(net, pushes, takings, number)

    def test_nothing_is_changed(self):
        for net, pushes, takings in chances(20, 10):
            kept = copy.deepcopy((net, pushes, takings))
            ending_of(net, pushes, 0, takings)
            standing_in(net, pushes, 0, (1, 1), takings)
            self.assertEqual((net, pushes, takings), kept)


if __name__ == "__main__":
    unittest.main()
