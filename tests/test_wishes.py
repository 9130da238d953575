"""Wishes, their steps, the least moments that meet them, and rings [15], [16]."""

import copy
import random
import unittest
from fractions import Fraction

from helpers import Refuses, told_of, worth
from tilefall.wishes import played_at, steps_of

ORDINARY = [("after", "a", "b", (3, 2)), ("within", "a", "b", (2, 1)), ("with", "b", "c"), ("from", "a", (1, 1))]
GREAT = 10 ** 59 + 7

NO_FRACTIONS = (0, 1, True, None, "1", 0.5, (1,), (1, 2, 3), [1, 2], (2, 4), (0, 2), (1, 0), (1, -1), (True, 1), (1, True))
NO_BELLS = ("", "A", "a1", "a.b.c.d.e", "abcdefghi", "a ", ".a", True, None, 0, ("a",), ["a"], {"a": 1}, b"a", object())


class Alike:
    """What is like anything it is held against."""

    def __eq__(self, other):
        return True


NO_WISHES = (
    None, True, False, 0, 1, 1.5, "after", "with", b"with", [], {}, set(), (), object(), tuple,
    # Unknown words, and things in the place of words.
    ("before", "a", "b", (1, 1)), ("After", "a", "b", (1, 1)), ("", "a", "b"), ("with ", "a", "b"), ("to", "a", (1, 1)),
    (None, "a", "b"), (["with"], "a", "b"), ({}, "a", "b", (1, 1)), (True, "a", (1, 1)), (b"with", "a", "b"),
    (Alike(), "a", "b"), (Alike(), "a", "b", (1, 1)), (Alike(), "a", (1, 1)),
    # Words with the things of others.
    ("with", "a", (1, 1)), ("from", "a", "b"), ("after", "a", "b"), ("within", "a", "b"), ("with", "a", "b", (1, 1)),
    ("from", "a", "b", (1, 1)), ("after", "a", (1, 1)), ("from", (1, 1), "a"), ("after", (1, 1), "a", "b"),
    # Too few things and too many.
    ("after",), ("with",), ("from",), ("after", "a"), ("with", "a"), ("from", "a"), ("after", "a", "b", (1, 1), (1, 1)),
    ("with", "a", "b", "c"), ("from", "a", (1, 1), (1, 1)), ("within", "a", "b", (1, 1), None),
    # Lists in the place of tuples.
    ["after", "a", "b", (1, 1)], ["with", "a", "b"], ["from", "a", (1, 1)],
    # a and b alike.
    ("after", "a", "a", (1, 1)), ("within", "a", "a", (1, 1)), ("with", "a", "a"), ("with", "a.b", "a.b"),
    ("after", "a", "a", (-1, 1)),
    # From a moment below 0.
    ("from", "a", (-1, 1)), ("from", "a", (-1, GREAT)),
)


def all_no_wishes():
    for thing in NO_WISHES:
        yield thing
    for bell in NO_BELLS:
        yield ("after", bell, "b", (1, 1))
        yield ("within", "b", bell, (1, 1))
        yield ("with", bell, "b")
        yield ("with", "b", bell)
        yield ("from", bell, (1, 1))
    for x in NO_FRACTIONS:
        yield ("after", "a", "b", x)
        yield ("within", "a", "b", x)
        yield ("from", "a", x)


class WhatIsNoWish(Refuses):
    def assert_no_wish(self, thing, at):
        for deed in (steps_of, played_at):
            told = self.assert_refused("NoWish", deed, thing)
            self.assertEqual(told.at, at)
            self.assertIsNot(type(told.at), bool)

    def test_what_is_no_list(self):
        for thing in (
            None, True, False, 0, 1.5, "", "with", (), tuple(ORDINARY), ORDINARY[0], {}, {0: ORDINARY[0]}, set(),
            object(), list, iter(ORDINARY), range(2),
        ):
            with self.subTest(thing=thing):
                self.assert_no_wish(thing, None)

    def test_a_thing_that_is_no_wish_at_any_place(self):
        for thing in all_no_wishes():
            with self.subTest(thing=thing):
                self.assert_no_wish([thing], 0)
                self.assert_no_wish([thing] + ORDINARY, 0)
                self.assert_no_wish(ORDINARY[:2] + [thing] + ORDINARY[2:], 2)
                self.assert_no_wish(ORDINARY + [thing], 4)

    def test_the_first_of_several_is_told(self):
        self.assert_no_wish([ORDINARY[0], None, ORDINARY[1], None], 1)
        self.assert_no_wish([None, None], 0)
        self.assert_no_wish([ORDINARY], 0)

    def test_what_is_refused_stays(self):
        wishes = ORDINARY + [["with", "a", "b"]]
        kept = copy.deepcopy(wishes)
        self.assert_no_wish(wishes, 4)
        self.assertEqual(wishes, kept)


class StepsOf(unittest.TestCase):
    def test_of_no_wishes(self):
        self.assertEqual(steps_of([]), [])

    def test_of_each_kind(self):
        self.assertEqual(steps_of([("after", "a", "b", (3, 2))]), [("a", "b", (3, 2), 0)])
        self.assertEqual(steps_of([("after", "a", "b", (-3, 2))]), [("a", "b", (-3, 2), 0)])
        self.assertEqual(steps_of([("within", "a", "b", (3, 2))]), [("b", "a", (-3, 2), 0)])
        self.assertEqual(steps_of([("within", "a", "b", (-3, 2))]), [("b", "a", (3, 2), 0)])
        self.assertEqual(steps_of([("within", "a", "b", (0, 1))]), [("b", "a", (0, 1), 0)])
        self.assertEqual(steps_of([("with", "a.x", "b")]), [("a.x", "b", (0, 1), 0), ("b", "a.x", (0, 1), 0)])
        self.assertEqual(steps_of([("from", "a", (1, 1))]), [])

    def test_wish_by_wish(self):
        self.assertEqual(steps_of(wishes=[("from", "z", (0, 1))] + ORDINARY + [("after", "c", "a", (-9, 1))]), [
            ("a", "b", (3, 2), 1), ("b", "a", (-2, 1), 2), ("b", "c", (0, 1), 3), ("c", "b", (0, 1), 3),
            ("c", "a", (-9, 1), 5),
        ])

    def test_the_list_is_the_askers_own(self):
        wishes = list(ORDINARY)
        told = steps_of(wishes)
        kept = list(told)
        told.clear()
        self.assertEqual(steps_of(wishes), kept)
        self.assertEqual(wishes, ORDINARY)


def is_met(wish, moments):
    if wish[0] == "from":
        return moments[wish[1]] >= worth(wish[2])
    later = moments[wish[2]] - moments[wish[1]]
    if wish[0] == "with":
        return later == 0
    return later >= worth(wish[3]) if wish[0] == "after" else later <= worth(wish[3])


def bells_of(wishes):
    return set(name for wish in wishes for name in wish[1:3] if isinstance(name, str))


def slow_moments(wishes):
    """The greatest sums along steps that come to no bell twice; they meet the wishes just where anything does."""
    steps = steps_of(wishes)
    moments = {}

    def go_on(bell, moment, gone):
        moments[bell] = max(moments.get(bell, Fraction(0)), moment)
        for one, other, x, number in steps:
            if one == bell and other not in gone:
                go_on(other, moment + worth(x), gone + [other])

    for bell in bells_of(wishes):
        froms = [worth(wish[2]) for wish in wishes if wish[0] == "from" and wish[1] == bell]
        go_on(bell, max(froms + [Fraction(0)]), [bell])
    return moments


class PlayedAt(unittest.TestCase):
    def assert_ring(self, wishes):
        told = played_at(wishes)
        self.assertEqual(told[0], "ring")
        self.assertEqual(len(told), 2)
        ring = told[1]
        self.assertIs(type(ring), list)
        self.assertTrue(ring)
        for number, step in enumerate(ring):
            self.assertIn(step, steps_of(wishes))
            self.assertEqual(ring[number - 1][1], step[0])
        self.assertEqual(len(set(step[1] for step in ring)), len(ring))
        self.assertGreater(sum(worth(step[2]) for step in ring), 0)
        return ring

    def assert_moments(self, wishes, moments):
        self.assertEqual(played_at(wishes), ("moments", moments))

    def test_of_no_wishes(self):
        self.assert_moments([], {})

    def test_of_each_kind_by_itself(self):
        self.assert_moments([("after", "a", "b", (3, 2))], {"a": (0, 1), "b": (3, 2)})
        self.assert_moments([("after", "a", "b", (-3, 2))], {"a": (0, 1), "b": (0, 1)})
        self.assert_moments([("within", "a", "b", (3, 2))], {"a": (0, 1), "b": (0, 1)})
        self.assert_moments([("within", "a", "b", (-3, 2))], {"a": (3, 2), "b": (0, 1)})
        self.assert_moments([("with", "a", "b")], {"a": (0, 1), "b": (0, 1)})
        self.assert_moments([("from", "a", (7, 3))], {"a": (7, 3)})
        self.assert_moments([("from", "a", (0, 1))], {"a": (0, 1)})

    def test_several_froms_of_one_bell(self):
        for wishes in (
            [("from", "a", (1, 1)), ("from", "a", (5, 2)), ("from", "a", (2, 1))],
            [("from", "a", (5, 2)), ("from", "a", (1, 1))],
        ):
            self.assert_moments(wishes, {"a": (5, 2)})

    def test_beside_each_other(self):
        self.assert_moments(ORDINARY, {"a": (1, 1), "b": (5, 2), "c": (5, 2)})
        self.assert_moments(
            [("within", "a", "b", (1, 1)), ("from", "b", (5, 1)), ("with", "c", "a")],
            {"a": (4, 1), "b": (5, 1), "c": (4, 1)})
        self.assert_moments(
            [("after", "c", "d", (1, 1)), ("after", "b", "c", (1, 1)), ("after", "a", "b", (1, 1)), ("from", "a", (1, 2))],
            {"a": (1, 2), "b": (3, 2), "c": (5, 2), "d": (7, 2)})
        self.assert_moments(
            [("after", "a", "b", (1, 1)), ("within", "a", "b", (1, 1))], {"a": (0, 1), "b": (1, 1)})

    def test_a_ring_that_comes_to_just_nothing_is_met(self):
        self.assert_moments(
            [("after", "a", "b", (2, 1)), ("after", "b", "c", (-5, 1)), ("after", "c", "a", (3, 1))],
            {"a": (3, 1), "b": (5, 1), "c": (0, 1)})

    def test_rings_of_with_and_after(self):
        wishes = [("with", "a", "b"), ("after", "a", "b", (1, GREAT))]
        ring = self.assert_ring(wishes)
        self.assertEqual(sorted(ring), [("a", "b", (1, GREAT), 1), ("b", "a", (0, 1), 0)])
        self.assert_ring([("after", "b", "a", (1, 2)), ("with", "a", "b")])
        self.assert_ring([("within", "b", "a", (-1, 2)), ("with", "a", "b")])
        self.assert_ring([("after", "a", "b", (2, 1)), ("within", "a", "b", (1, 1)), ("from", "c", (1, 1))])

    def test_rings_of_several_steps(self):
        names = "abcdefgh"
        for count in range(2, 9):
            for turn in range(count):
                with self.subTest(count=count, turn=turn):
                    wishes = [("after", names[k], names[(k + 1) % count], (-1, 1)) for k in range(count)]
                    wishes[turn] = wishes[turn][:3] + ((count, 1),)
                    ring = self.assert_ring(wishes)
                    self.assertEqual(len(ring), count)
                    wishes[turn] = wishes[turn][:3] + ((count - 1, 1),)
                    self.assertEqual(played_at(wishes)[0], "moments")

    def test_a_ring_far_behind_other_bells(self):
        names = ["b" + one for one in "abcdefghijklmnopqrst"]
        wishes = [("after", names[k], names[k + 1], (3, 1)) for k in range(19)]
        wishes.append(("after", names[19], names[18], (-2, 1)))
        self.assertEqual(len(self.assert_ring(wishes)), 2)
        wishes.reverse()
        self.assertEqual(len(self.assert_ring(wishes)), 2)
        wishes[0] = ("after", names[19], names[18], (-3, 1))
        self.assertEqual(played_at(wishes)[0], "moments")

    def test_a_small_ring_beside_great_steps(self):
        wishes = [
            ("after", "a", "b", (GREAT, 1)), ("after", "b", "c", (-GREAT, 1)), ("after", "c", "a", (1, GREAT)),
            ("from", "z", (GREAT, 1)), ("after", "z", "a", (0, 1)),
        ]
        self.assertEqual(len(self.assert_ring(wishes)), 3)

    def test_against_a_slow_one(self):
        source = random.Random(20)
        seen = set()
        for turn in range(600):
            names = ("a", "b.c", "d", "e", "f")[:source.randint(2, 5)]
            wishes = []
            for each in range(source.randint(1, 7)):
                one, other = source.sample(names, 2)
                x = (source.randint(-6, 4), source.choice((1, 5)))
                x = told_of(Fraction(*x))
                wishes.append(source.choice((
                    ("after", one, other, x), ("after", one, other, x), ("within", one, other, x), ("with", one, other),
                    ("from", one, told_of(abs(Fraction(*x)))),
                )))
            with self.subTest(wishes=wishes):
                slow = slow_moments(wishes)
                meets = all(is_met(wish, slow) for wish in wishes)
                seen.add(meets)
                if meets:
                    self.assert_moments(wishes, {bell: told_of(slow[bell]) for bell in slow})
                else:
                    self.assert_ring(wishes)
        self.assertEqual(seen, {True, False})

    def test_nothing_is_changed_and_what_is_told_is_the_askers_own(self):
        wishes = list(ORDINARY)
        told = played_at(wishes=wishes)
        told[1].clear()
        self.assert_moments(wishes, {"a": (1, 1), "b": (5, 2), "c": (5, 2)})
        self.assertEqual(wishes, ORDINARY)
        wishes = [("with", "a", "b"), ("after", "a", "b", (1, 2))]
        played_at(wishes)[1].clear()
        self.assertEqual(len(self.assert_ring(wishes)), 2)


if __name__ == "__main__":
    unittest.main()
