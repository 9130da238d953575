"""Posts, runs and nets [5], and what [2] says of lists."""

import unittest

from tilefall import errors
from tilefall.nets import is_post, is_run, net_of, posts_of

NO_POSTS = (
    # Parts of no letter and of nine, five parts.
    "", "abcdefghi", "a.abcdefghi", "abcdefghi.a", "a.b.c.d.e", "abcdefgh.abcdefgh.abcdefgh.abcdefgh.a",
    # A point too many.
    ".", "..", "...", ".a", "a.", "a..b", ".a.b", "a.b.", "a.b..c", "a.b.c.", ".a.b.c.d", "a.b.c.d.",
    # Great letters, figures, blanks and other signs.
    "A", "aB", "Ab", "a.B", "Z", "0", "a1", "1a", "a.1", " ", " a", "a ", "a b", "a. b", "a .b", "a\n", "\na", "a\tb",
    "a-b", "a_b", "a,b", "a;b", "a/b", "a'", "`", "{", "a`", "a{", "@", "[", "a.b.c-d",
    # No texts.
    True, False, None, 0, 1, 1.5, b"a", b"", (), ("a",), ["a"], [], {"a": 1}, {"a"}, object(), str,
)

RUN = ("a", "b", (1, 2))

NO_TIMES = (
    # (0, 1) or below.
    (0, 1), (-1, 1), (-1, 2),
    # No fractions.
    0, 1, True, None, "1", 1.5, (1,), (1, 2, 3), [1, 2], (2, 4), (0, 2), (1, 0), (1, -1), (-1, -1), (True, 1), (1, True),
    (1.0, 1), ("1", 1),
)

NO_RUNS = (
    True, False, None, 0, 1, 1.5, "a", "", "abc", b"abc", {}, {"a": "b"}, object(), tuple,
    # A list in the place of the tuple; too few things and too many.
    ["a", "b", (1, 2)], [], (), ("a",), ("a", "b"), ("a", (1, 2)), ("a", "b", (1, 2), None), ("a", "b", 1, 2), (RUN,),
    ("a", "b", "c", (1, 2)),
    # Between a post and itself.
    ("a", "a", (1, 2)), ("a.b", "a.b", (1, 1)),
    # In another order.
    ((1, 2), "a", "b"), ("a", (1, 2), "b"),
)


class IsPost(unittest.TestCase):
    def test_posts(self):
        for thing in (
            "a", "z", "az", "abcdefgh", "ijklmnop", "qrstuvwx", "yz", "a.b", "a.b.c", "a.b.c.d", "a.a.a.a",
            "abcdefgh.abcdefgh", "abcdefgh.ijklmnop.qrstuvwx.zzzzzzzz", "run", "end", "piece",
        ):
            with self.subTest(thing=thing):
                self.assertIs(is_post(thing), True)

    def test_no_posts(self):
        for thing in NO_POSTS:
            with self.subTest(thing=thing):
                self.assertIs(is_post(thing), False)

    def test_every_sign_as_a_part_and_within_one(self):
        for code in range(32, 127):
            sign = chr(code)
            small = "a" <= sign <= "z"
            with self.subTest(sign=sign):
                self.assertIs(is_post(sign), small)
                self.assertIs(is_post("x" + sign + "x"), small or sign == ".")

    def test_every_count_of_letters_and_parts(self):
        for letters in range(0, 12):
            for parts in range(1, 8):
                with self.subTest(letters=letters, parts=parts):
                    name = ".".join(["m" * letters] * parts)
                    self.assertIs(is_post(name), 1 <= letters <= 8 and parts <= 4)


class IsRun(unittest.TestCase):
    def test_runs(self):
        for thing in (
            RUN, ("b", "a", (1, 2)), ("a", "b", (1, 1)), ("a", "b", (7, 3)), ("a", "a.a", (1, 1)), ("ab", "a.b", (1, 1)),
            ("a.b.c.d", "abcdefgh", (1, 10 ** 59 + 1)), ("a", "b", (10 ** 59 + 1, 1)),
        ):
            with self.subTest(thing=thing):
                self.assertIs(is_run(thing), True)

    def test_no_runs(self):
        for thing in NO_RUNS:
            with self.subTest(thing=thing):
                self.assertIs(is_run(thing), False)

    def test_what_is_no_post_ends_no_run(self):
        for thing in NO_POSTS:
            with self.subTest(thing=thing):
                self.assertIs(is_run((thing, "b", (1, 2))), False)
                self.assertIs(is_run(("a", thing, (1, 2))), False)

    def test_what_is_no_time_of_a_run(self):
        for thing in NO_TIMES:
            with self.subTest(thing=thing):
                self.assertIs(is_run(("a", "b", thing)), False)


class NetOf(unittest.TestCase):
    def assert_no_net(self, thing):
        with self.assertRaises(errors.TileError) as taken:
            net_of(thing)
        self.assertIs(type(taken.exception), errors.NoNet)

    def many(self, count):
        return [("a", "b" if number % 2 else "c", (number + 1, 1)) for number in range(count)]

    def test_from_1_to_120_runs(self):
        for count in (1, 2, 3, 60, 119, 120):
            with self.subTest(count=count):
                self.assertEqual(net_of(self.many(count)), self.many(count))

    def test_no_runs_and_more_than_120_are_refused(self):
        for count in (0, 121, 122, 500):
            with self.subTest(count=count):
                self.assert_no_net(self.many(count))

    def test_several_runs_between_two_posts(self):
        runs = [RUN, RUN, ("b", "a", (1, 2)), ("a", "b", (3, 1))]
        self.assertEqual(net_of(runs), runs)

    def test_posts_that_nothing_joins(self):
        runs = [RUN, ("c", "d", (1, 1))]
        self.assertEqual(net_of(runs), runs)

    def test_what_is_no_list_is_refused(self):
        for thing in (
            None, True, False, 0, 1, 1.5, "", "abc", b"abc", (), RUN, (RUN,), {}, {0: RUN}, {RUN: True}, {RUN}, object(),
            list, iter([RUN]), range(3),
        ):
            with self.subTest(thing=thing):
                self.assert_no_net(thing)

    def test_a_thing_that_is_no_run_is_refused_wherever_it_is(self):
        wrong = NO_RUNS + tuple(("a", "b", time) for time in NO_TIMES) + ([RUN],)
        wrong = wrong + tuple((name, "b", (1, 2)) for name in NO_POSTS)
        for thing in wrong:
            for runs in ([thing], [thing, RUN], [RUN, thing], [RUN, thing, RUN], [RUN] * 119 + [thing]):
                with self.subTest(thing=thing, count=len(runs)):
                    self.assert_no_net(runs)

    def test_a_list_that_holds_itself_is_refused(self):
        runs = [RUN]
        runs.append(runs)
        self.assert_no_net(runs)

    def test_the_list_told_is_a_new_one(self):
        runs = self.many(3)
        told = net_of(runs)
        again = net_of(runs)
        self.assertIsNot(told, runs)
        self.assertIsNot(told, again)
        self.assertIs(type(told), list)
        told.append(RUN)
        self.assertEqual(runs, self.many(3))
        self.assertEqual(again, self.many(3))
        self.assertEqual(net_of(runs), self.many(3))

    def test_a_later_change_of_what_was_handed_in_changes_nothing_told(self):
        runs = self.many(3)
        told = net_of(runs)
        runs.clear()
        self.assertEqual(told, self.many(3))

    def test_what_is_refused_changes_nothing(self):
        runs = self.many(2) + [None]
        self.assert_no_net(runs)
        self.assertEqual(runs, self.many(2) + [None])
        many = self.many(121)
        self.assert_no_net(many)
        self.assertEqual(many, self.many(121))


class PostsOf(unittest.TestCase):
    def test_sorted_and_each_once(self):
        for net, posts in (
            ([RUN], ["a", "b"]),
            ([("b", "a", (1, 2))], ["a", "b"]),
            ([RUN, RUN, ("b", "a", (3, 1))], ["a", "b"]),
            ([("m", "c", (1, 1)), ("c", "z", (1, 1)), ("z", "a", (2, 1)), ("a", "m", (1, 1))], ["a", "c", "m", "z"]),
            # The point stands ahead of all letters.
            ([("ab", "a.b", (1, 1)), ("a", "b", (1, 1)), ("a.b.c", "aa", (1, 1))], ["a", "a.b", "a.b.c", "aa", "ab", "b"]),
            ([("z", "y", (1, 1)), ("x", "w", (1, 1))], ["w", "x", "y", "z"]),
        ):
            with self.subTest(net=net):
                self.assertEqual(posts_of(net), posts)
                self.assertIs(type(posts_of(net)), list)

    def test_of_120_runs(self):
        names = [one + other for one in "zyxwvuts" for other in "afbecd"]
        net = [(names[number % 48], names[(7 * number + 1) % 48], (1, 1)) for number in range(120)]
        net = [run for run in net if run[0] != run[1]]
        expected = sorted(set(run[0] for run in net) | set(run[1] for run in net))
        self.assertEqual(posts_of(net_of(net)), expected)

    def test_the_list_told_is_the_askers_own_and_the_net_stays(self):
        net = [("b", "a", (1, 2)), ("c", "a", (1, 1))]
        told = posts_of(net)
        told.append("d")
        self.assertEqual(posts_of(net), ["a", "b", "c"])
        self.assertEqual(net, [("b", "a", (1, 2)), ("c", "a", (1, 1))])
        later = posts_of(net)
        net.clear()
        self.assertEqual(later, ["a", "b", "c"])


if __name__ == "__main__":
    unittest.main()
