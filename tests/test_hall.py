"""The hall [23], [24]: against falls, tiles and endings with all pushes and takings told ahead."""

import copy
import random
import unittest
from fractions import Fraction

from helpers import Refuses, chance_net, ends_of, told_of, worth
from tilefall import errors
from tilefall.falls import fall_moments
from tilefall.hall import Hall
from tilefall.tiles import ending_of, standing_in

ROW = [("a", "b", (1, 1)), ("b", "c", (1, 2)), ("c", "d", (2, 1))]
GREAT = 10 ** 59 + 7

NO_POSTS = ("x", "", "A", "a.b", "a ", 0, 1, True, False, None, 1.5, b"a", ("a",), ["a"], {"a": 1}, {"a"}, object(), str)
NO_RUNS = (
    3, 4, 120, -1, -3, GREAT, True, False, None, "0", "", 0.0, 1.0, 1.5, (0,), [0], {0: 0}, {0}, b"0", object(), (0, 1), int,
)
NO_TIMES = (
    0, 1, True, False, None, "1", 1.5, (1,), (1, 2, 3), [1, 2], [0, 1], (2, 4), (0, 2), (1, 0), (0, 0), (1, -1), (-1, 1),
    (-1, 2), (-1, GREAT), (True, 1), (1, True), (0, True), (1.0, 1), ("1", 1), (), {}, object(), tuple, (None, 1),
)


def everything(hall, net):
    return (hall.now(), hall.fallen(), [hall.tiles(number) for number in range(len(net))])


def events_ahead(net, pushes, takings, until):
    """What happens behind (0, 1) up to a moment, with all deeds told ahead."""
    events = []
    for post, moment in fall_moments(net, pushes, takings).items():
        if moment is not None and (post, moment) not in pushes:
            events.append((worth(moment), 0, post, ("falls", moment, post)))
    for number in range(len(net)):
        ending = ending_of(net, pushes, number, takings)
        if ending[0] == "met":
            events.append((worth(ending[1]), 1, number, ("met", ending[1], number, ending[2])))
        elif ending[0] == "swept":
            events.append((worth(ending[2]), 1, number, ("swept", ending[2], number)))
    return [event[3] for event in sorted(events) if event[0] <= until]


class Play:
    """A hall, and beside it all that was done in it."""

    def __init__(self, net):
        self.net = net
        self.hall = Hall(net)
        self.now = Fraction(0)
        self.pushes = []
        self.takings = []
        self.events = []

    def push(self, post):
        self.hall.push(post)
        self.pushes.append((post, told_of(self.now)))

    def take(self, number):
        self.hall.take(number)
        self.takings.append((number, told_of(self.now)))

    def go(self, time):
        told = self.hall.go(time)
        self.now += worth(time)
        self.events.extend(told)
        return told

    def may_push(self, post):
        moment = worth(fall_moments(self.net, self.pushes, self.takings)[post])
        return moment is None or moment > self.now

    def may_take(self, number):
        return standing_in(self.net, self.pushes, number, told_of(self.now), self.takings) is not None


class Ordinary(Refuses):
    def test_a_new_hall(self):
        hall = Hall(ROW)
        self.assertEqual(everything(hall, ROW), ((0, 1), {}, [((0, 1), (1, 1))] * 3))
        self.assertEqual(hall.go((5, 1)), [])
        self.assertEqual(hall.now(), (5, 1))
        self.assertEqual(hall.fallen(), {})

    def test_a_fall_along_a_row(self):
        hall = Hall(ROW)
        self.assertIsNone(hall.push("a"))
        self.assertEqual(hall.fallen(), {"a": (0, 1)})
        self.assertEqual(hall.go((1, 2)), [])
        self.assertEqual(hall.tiles(0), ((1, 2), (1, 1)))
        self.assertEqual(hall.go((1, 2)), [("falls", (1, 1), "b"), ("swept", (1, 1), 0)])
        self.assertEqual(hall.tiles(0), None)
        self.assertEqual(hall.go((3, 4)), [("falls", (3, 2), "c"), ("swept", (3, 2), 1)])
        self.assertEqual(hall.now(), (7, 4))
        self.assertEqual(hall.tiles(2), ((1, 8), (1, 1)))
        self.assertEqual(hall.fallen(), {"a": (0, 1), "b": (1, 1), "c": (3, 2)})
        self.assertEqual(hall.go((100, 1)), [("falls", (7, 2), "d"), ("swept", (7, 2), 2)])
        self.assertEqual(hall.go((100, 1)), [])

    def test_all_at_once(self):
        hall = Hall(ROW)
        hall.push("a")
        self.assertEqual(hall.go(time=(7, 2)), [
            ("falls", (1, 1), "b"), ("swept", (1, 1), 0), ("falls", (3, 2), "c"), ("swept", (3, 2), 1),
            ("falls", (7, 2), "d"), ("swept", (7, 2), 2)])

    def test_a_meeting(self):
        hall = Hall([("a", "b", (2, 1))])
        hall.push("a")
        hall.go((1, 1))
        hall.push("b")
        self.assertEqual(hall.go((1, 2)), [("met", (3, 2), 0, (3, 4))])
        self.assertEqual(hall.tiles(0), None)
        self.assertEqual(hall.go((9, 1)), [])
        self.assertEqual(hall.fallen(), {"a": (0, 1), "b": (1, 1)})

    def test_the_order_at_one_moment(self):
        # At 2: z falls ahead of all runs by name, runs by numbers, whether met or swept.
        net = [
            ("a", "z", (2, 1)), ("m", "n", (4, 1)), ("a", "c", (2, 1)), ("o", "p", (4, 1)), ("a", "b.c", (2, 1)),
            ("c", "a", (2, 1)),
        ]
        hall = Hall(net)
        for post in ("a", "m", "n", "o", "p"):
            hall.push(post)
        self.assertEqual(hall.go((2, 1)), [
            ("falls", (2, 1), "b.c"), ("falls", (2, 1), "c"), ("falls", (2, 1), "z"), ("swept", (2, 1), 0),
            ("met", (2, 1), 1, (1, 2)), ("swept", (2, 1), 2), ("met", (2, 1), 3, (1, 2)), ("swept", (2, 1), 4),
            ("swept", (2, 1), 5)])

    def test_moments_come_in_order_as_fractions(self):
        hall = Hall([("a", "b", (9, 10)), ("a", "c", (1, 1)), ("a", "d", (10, 9)), ("a", "e", (2, 1))])
        hall.push("a")
        self.assertEqual([event[2] for event in hall.go((9, 1))], ["b", 0, "c", 1, "d", 2, "e", 3])

    def test_a_push_at_the_moment_at_which_a_fall_comes(self):
        hall = Hall(ROW)
        hall.push("a")
        hall.go((1, 1))
        self.assert_refused("Fallen", hall.push, "b")
        self.assertEqual(hall.fallen(), {"a": (0, 1), "b": (1, 1)})
        self.assertEqual(hall.go((1, 2)), [("falls", (3, 2), "c"), ("swept", (3, 2), 1)])

    def test_a_taking_at_the_moment_at_which_a_fall_comes_to_the_end(self):
        hall = Hall(ROW)
        hall.push("a")
        hall.go((1, 1))
        self.assert_refused("Gone", hall.take, 0)
        hall = Hall([("a", "b", (2, 1))])
        hall.push("a")
        hall.push("b")
        hall.go((1, 1))
        self.assert_refused("Gone", hall.take, 0)

    def test_a_taking_just_ahead_keeps_the_fall_back(self):
        hall = Hall(ROW)
        hall.push("a")
        hall.go((99, 100))
        self.assertIsNone(hall.take(0))
        self.assertIsNone(hall.tiles(0))
        self.assertEqual(hall.go((9, 1)), [])
        self.assertEqual(hall.fallen(), {"a": (0, 1)})
        self.assertIsNone(hall.push("b"))
        self.assertEqual(hall.go((1, 2))[0], ("falls", told_of(Fraction(999, 100) + Fraction(1, 2)), "c"))

    def test_a_taking_of_what_stands_untouched(self):
        hall = Hall(ROW)
        hall.take(1)
        self.assert_refused("Gone", hall.take, 1)
        hall.push("a")
        self.assertEqual(hall.go((9, 1)), [("falls", (1, 1), "b"), ("swept", (1, 1), 0)])

    def test_time_that_does_not_go_on(self):
        hall = Hall(ROW)
        hall.push("a")
        for turn in range(3):
            self.assertEqual(hall.go((0, 1)), [])
        self.assertEqual(hall.go((1, 1)), [("falls", (1, 1), "b"), ("swept", (1, 1), 0)])
        self.assertEqual(hall.go((0, 1)), [])
        self.assertEqual(hall.now(), (1, 1))

    def test_sixty_figures(self):
        hall = Hall([("a", "b", (1, GREAT)), ("b", "c", (GREAT, 3))])
        hall.push("a")
        self.assertEqual(hall.go((GREAT, 2)), [
            ("falls", (1, GREAT), "b"), ("swept", (1, GREAT), 0),
            ("falls", told_of(Fraction(1, GREAT) + Fraction(GREAT, 3)), "c"),
            ("swept", told_of(Fraction(1, GREAT) + Fraction(GREAT, 3)), 1)])


class Refusals(Refuses):
    def begun(self):
        hall = Hall(ROW)
        hall.push("b")
        hall.go((3, 4))
        return hall

    def assert_no_change(self, name, deed_of, things):
        hall = self.begun()
        before = everything(hall, ROW)
        for thing in things:
            with self.subTest(name=name, thing=thing):
                self.assert_refused(name, deed_of(hall), thing)
                self.assertEqual(everything(hall, ROW), before)
        self.assertEqual(hall.go((9, 1)), self.begun().go((9, 1)))

    def test_no_post(self):
        self.assert_no_change("NoPost", lambda hall: hall.push, NO_POSTS)

    def test_fallen(self):
        self.assert_no_change("Fallen", lambda hall: hall.push, ("b", "c"))

    def test_no_run(self):
        self.assert_no_change("NoRun", lambda hall: hall.take, NO_RUNS)
        self.assert_no_change("NoRun", lambda hall: hall.tiles, NO_RUNS)

    def test_gone(self):
        self.assert_no_change("Gone", lambda hall: hall.take, (1,))

    def test_no_number(self):
        self.assert_no_change("NoNumber", lambda hall: hall.go, NO_TIMES)

    def test_the_arguments_names(self):
        hall = Hall(net=ROW)
        self.assertIsNone(hall.push(post="a"))
        self.assertIsNone(hall.take(number=2))
        self.assertEqual(hall.tiles(number=2), None)
        self.assertEqual(hall.go(time=(1, 2)), [])


class AgainstAllToldAhead(Refuses):
    def assert_as_ahead(self, play):
        net, hall = play.net, play.hall
        now = told_of(play.now)
        self.assertEqual(hall.now(), now)
        moments = fall_moments(net, play.pushes, play.takings)
        fallen = {post: moments[post] for post in moments if moments[post] and worth(moments[post]) <= play.now}
        self.assertEqual(hall.fallen(), fallen)
        for number in range(len(net)):
            self.assertEqual(hall.tiles(number), standing_in(net, play.pushes, number, now, play.takings))

    def deed(self, source, play):
        kind = source.choice(("push", "take", "go", "go"))
        if kind == "push":
            post = source.choice(ends_of(play.net))
            if play.may_push(post):
                play.push(post)
            else:
                self.assert_refused("Fallen", play.hall.push, post)
        elif kind == "take":
            number = source.randrange(len(play.net))
            if play.may_take(number):
                play.take(number)
            else:
                self.assert_refused("Gone", play.hall.take, number)
        else:
            play.go(source.choice(((0, 1), (1, 2), (1, 1), (1, 3), (1, 6), (3, 2))))

    def test_deeds_by_chance(self):
        source = random.Random(25)
        for turn in range(150):
            play = Play(chance_net(source, posts=6, runs=8))
            with self.subTest(turn=turn, net=play.net):
                for each in range(source.randint(1, 14)):
                    self.deed(source, play)
                    self.assert_as_ahead(play)
                play.go((99, 1))
                self.assert_as_ahead(play)
                self.assertEqual(play.events, events_ahead(play.net, play.pushes, play.takings, play.now))

    def test_at_once_and_in_parts(self):
        source = random.Random(26)
        for turn in range(60):
            net = chance_net(source, posts=6, runs=8)
            pushed = [post for post in ends_of(net) if source.randint(0, 1)]
            for parts in ([(12, 1)], [(0, 1), (12, 1), (0, 1)], [(1, 2)] * 24, [(7, 5)] + [(53, 5)], [(1, 3)] * 36):
                halls = Hall(net)
                for post in pushed:
                    halls.push(post)
                told = []
                for part in parts:
                    told.extend(halls.go(part))
                with self.subTest(net=net, pushed=pushed, parts=parts):
                    self.assertEqual(
                        told, events_ahead(net, [(post, (0, 1)) for post in pushed], [], Fraction(12)))


class WhatIsHandedInAndTold(Refuses):
    def test_a_net_that_is_changed_later(self):
        net = copy.deepcopy(ROW)
        hall = Hall(net)
        hall.push("a")
        net.clear()
        self.assertEqual(len(hall.go((9, 1))), 6)
        net.extend([("x", "y", (1, 1))])
        self.assert_refused("NoPost", hall.push, "x")

    def test_the_net_is_not_changed(self):
        net = copy.deepcopy(ROW)
        hall = Hall(net)
        hall.push("a")
        hall.take(1)
        hall.go((9, 1))
        self.assertEqual(net, ROW)

    def test_what_is_told_is_the_askers_own(self):
        hall = Hall(ROW)
        hall.push("a")
        told = hall.fallen()
        told["x"] = (1, 1)
        told.pop("a")
        self.assertEqual(hall.fallen(), {"a": (0, 1)})
        kept = hall.fallen()
        events = hall.go((1, 1))
        self.assertEqual(kept, {"a": (0, 1)})
        events.clear()
        self.assertEqual(hall.go((1, 2)), [("falls", (3, 2), "c"), ("swept", (3, 2), 1)])

    def test_two_halls_beside_each_other(self):
        one, other = Hall(ROW), Hall(ROW)
        one.push("a")
        self.assertEqual(other.fallen(), {})
        other.take(0)
        self.assertEqual(one.tiles(0), ((0, 1), (1, 1)))
        one.go((1, 1))
        self.assertEqual(other.now(), (0, 1))
        self.assertEqual(other.go((9, 1)), [])
        self.assertEqual(one.fallen(), {"a": (0, 1), "b": (1, 1)})
        self.assertTrue(issubclass(errors.Fallen, errors.TileError))


if __name__ == "__main__":
    unittest.main()
