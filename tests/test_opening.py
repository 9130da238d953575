"""Rows opened to the net [22]."""

import copy
import random
import unittest

from helpers import Refuses
from test_rows import chance_text
from tilefall.nets import net_of
from tilefall.opening import opened
from tilefall.rows import read_rows


def net_told(text):
    return opened(read_rows(text))


def named(words):
    """A net of runs that all take 1, written as `ab` pairs of posts."""
    return [tuple(pair.split("-")) + ((1, 1),) for pair in words.split()]


def slow_runs(rows, call, pieces):
    """The runs of rows, from the outermost row inwards: call tells what a post of these rows is called in the net."""
    for row in rows:
        if row[0] == "piece":
            pieces[row[1]] = row
        elif row[0] == "run":
            yield call(row[1]), call(row[2]), row[3]
        elif row[0] == "put":
            posts = dict(zip(pieces[row[1]][2], row[3]))
            yield from slow_runs(
                pieces[row[1]][3], lambda post, row=row, posts=posts: call(posts.get(post, row[2] + "." + post)), pieces)
        else:
            ends = [call(post) for post in row[2]]
            firsts = ends[:1] * len(ends) if row[0] == "star" else ends
            yield from ((one, other, row[1]) for one, other in zip(firsts, ends[1:]))
            if row[0] == "ring":
                yield ends[-1], ends[0], row[1]


class Opened(Refuses):
    def assert_net(self, text, words):
        self.assertEqual(net_told(text), named(words))

    def assert_no(self, name, text):
        self.assert_refused(name, opened, read_rows(text))

    def test_each_kind_of_row(self):
        self.assertEqual(net_told("run b a 3/2"), [("b", "a", (3, 2))])
        self.assert_net("row 1 a b", "a-b")
        self.assert_net("row 1 c a b d", "c-a a-b b-d")
        self.assert_net("star 1 b a", "b-a")
        self.assert_net("star 1 b a d c", "b-a b-d b-c")
        self.assert_net("ring 1 c a b", "c-a a-b b-c")
        self.assert_net("ring 1 d a c b", "d-a a-c c-b b-d")
        self.assertEqual(net_told("ring 1/7 a b c")[2], ("c", "a", (1, 7)))
        self.assertEqual(net_told("star 2/7 a b c")[1], ("a", "c", (2, 7)))
        self.assertEqual(net_told("row 3/7 a b c")[1], ("b", "c", (3, 7)))

    def test_rows_in_their_order(self):
        self.assert_net("star 1 a b c ; run a d 1 ; row 1 a d e ; run a d 1", "a-b a-c a-d a-d d-e a-d")

    def test_posts_may_come_again(self):
        self.assert_net("row 1 a b a ; star 1 a b b ; ring 1 a b c b", "a-b b-a a-b a-b a-b b-c c-b b-a")

    def test_a_piece_put(self):
        piece = "piece p x y ; row 1 x m y ; run m x.y 1 ; end"
        self.assert_net(piece + " ; put p s a b", "a-s.m s.m-b s.m-s.x.y")
        self.assert_net(piece + " ; put p s y x", "y-s.m s.m-x s.m-s.x.y")
        self.assert_net(
            "run a b 1 ; " + piece + " ; put p s a b ; run s.m a 1 ; put p t a.b.c.d b",
            "a-b a-s.m s.m-b s.m-s.x.y s.m-a a.b.c.d-t.m t.m-b t.m-t.x.y")

    def test_a_piece_put_twice_by_one_name_has_the_same_posts(self):
        self.assert_net("piece p x ; run x m 1 ; end ; put p s a ; put p s b", "a-s.m b-s.m")

    def test_only_whole_names_are_params(self):
        self.assert_net("piece p x ; row 1 x x.x xx y ; end ; put p s a", "a-s.x.x s.x.x-s.xx s.xx-s.y")

    def test_every_kind_of_row_in_a_piece(self):
        piece = "piece p x y ; run x m 1 ; row 1 x m y ; star 1 m x y ; ring 1 x m y ; end"
        self.assert_net(
            piece + " ; put p s a b",
            "a-s.m a-s.m s.m-b s.m-a s.m-b a-s.m s.m-b b-a")

    def test_puts_in_pieces(self):
        first = "piece p x ; run x m 1 ; end"
        second = "piece q x y ; put p s x ; put p t m ; run m y 1 ; end"
        self.assert_net(first + " ; " + second + " ; put q u a b", "a-u.s.m u.m-u.t.m u.m-b")
        third = "piece r x ; put q v x n ; put p w v.m ; end"
        self.assert_net(
            " ; ".join([first, second, third, "put r z a"]),
            "a-z.v.s.m z.v.m-z.v.t.m z.v.m-z.n z.v.m-z.w.m")

    def test_a_post_that_is_called_like_an_inner_param(self):
        self.assert_net(
            "piece p x y ; run x y 1 ; end ; piece q y x ; put p s x y ; put p s y m ; end ; put q t x y",
            "y-x x-t.m")

    def test_up_to_four_parts_of_a_name_and_five(self):
        piece = "piece p x ; run x a.b.c 1 ; end"
        self.assert_net(piece + " ; put p s a", "a-s.a.b.c")
        self.assert_no("NoNet", "piece p x ; run x a.b.c.d 1 ; end ; put p s a")
        rows = ["piece pa x ; run x m 1 ; end"]
        for one, other in ("ab", "bc", "cd"):
            rows.append(f"piece p{other} x ; put p{one} s x ; end")
        self.assert_net(" ; ".join(rows[:3]) + " ; put pc s a", "a-s.s.s.m")
        self.assert_no("NoNet", " ; ".join(rows) + " ; put pd s a")
        self.assert_no("NoNet", "run a b 1 ; " + " ; ".join(rows) + " ; put pd s a ; run a b 1")

    def test_params_alone_may_lie_deep(self):
        rows = ["piece a x y ; run x y 1 ; end"]
        for one, other in ("ab", "bc", "cd", "de", "ef", "fg", "gh"):
            rows.append(f"piece {other} x y ; put {one} s y x ; end")
        self.assert_net(" ; ".join(rows) + " ; put h s a b", "b-a")

    def test_a_post_of_five_parts_through_a_put_in_a_piece(self):
        text = "piece p x ; run x m 1 ; end ; piece q y ; put p s a.b.c.d ; run y m 1 ; end ; put q t e"
        self.assert_no("NoNet", text)
        self.assert_net(text.replace("a.b.c.d", "a.b.c"), "t.a.b.c-t.s.m e-t.m")

    def test_a_run_from_a_post_to_itself(self):
        for text in (
            "run a a 1", "run a b 1 ; run b b 1", "row 1 a b b", "star 1 a b a", "ring 1 a b a", "row 1 a a",
            "piece p x y ; run x y 1 ; end ; put p s a a", "piece p x ; run x s.m 1 ; run m m 1 ; end ; put p s a",
            "piece p x ; run x m 1 ; end ; put p s s.m",
        ):
            with self.subTest(text=text):
                self.assert_no("NoNet", text)

    def test_no_run_at_all(self):
        self.assert_no("NoNet", "piece p x ; run x y 1 ; end")
        self.assert_no("NoNet", "piece p x ; run x x 1 ; end ; piece q y ; put p s y ; end")

    def test_what_is_wrong_in_a_piece_that_is_never_put_is_not_in_the_net(self):
        self.assert_net("piece p x ; run x x 1 ; run x a.b.c.d 1 ; end ; run a b 1", "a-b")

    def test_just_120_runs_and_121(self):
        inner = "piece p x y ; " + " ; ".join(["run x y 1"] * 10) + " ; end"
        puts = [inner] + ["put p s a b"] * 12
        self.assertEqual(net_told(" ; ".join(puts)), named("a-b") * 120)
        self.assert_no("TooMany", " ; ".join(puts + ["run a b 1"]))
        self.assert_no("TooMany", " ; ".join(puts + ["put p s a b"]))
        names = " ".join([one + other for one in "abcdefghijk" for other in "abcdefghijk"])
        self.assertEqual(len(net_told("row 1 " + names)), 120)
        self.assertEqual(len(net_told("star 1 " + names)), 120)
        self.assert_no("TooMany", "ring 1 " + names)
        self.assertEqual(len(net_told("ring 1 " + names[3:])), 120)
        self.assert_no("TooMany", "row 1 zz " + names)
        self.assert_no("TooMany", "star 1 zz " + names)

    def test_a_piece_by_itself_has_no_runs(self):
        names = " ".join([one + other for one in "abcdefghijk" for other in "abcdefghijk"])
        self.assertEqual(len(net_told("piece p x ; row 1 x " + names + " ; end ; row 1 " + names)), 120)
        self.assert_no("TooMany", "piece p x ; row 1 x " + names + " ; end ; put p s a")

    def test_too_many_goes_ahead_of_no_net(self):
        names = " ".join(["a"] * 122)
        self.assert_no("TooMany", "row 1 " + names)
        self.assert_no("NoNet", "row 1 " + names[2:])
        self.assert_no("TooMany", "run a a 1 ; star 1 b " + names[4:])
        self.assert_no("NoNet", "run a a 1 ; star 1 b " + names[6:])

    def test_they_are_counted_ahead_of_any_opening(self):
        rows = ["piece a x ; row 1 x m n x m n x m n ; end"]
        for one, other in ("ab", "bc", "cd", "de", "ef", "fg", "gh", "hi", "ij", "jk"):
            puts = " ; ".join([f"put {one} s x"] * 3)
            rows.append(f"piece {other} x ; {puts} ; end")
        self.assert_no("TooMany", " ; ".join(rows + ["put k s a"]))

    def test_against_nets_by_chance(self):
        source = random.Random(24)
        seen = set()
        for turn in range(400):
            rows = read_rows(chance_text(source))
            kept = copy.deepcopy(rows)
            with self.subTest(rows=rows):
                runs = list(slow_runs(rows, str, {}))
                if len(runs) > 120:
                    told = self.assert_refused("TooMany", opened, rows)
                elif not runs or any(run[0] == run[1] or max(run[0].count("."), run[1].count(".")) > 3 for run in runs):
                    told = self.assert_refused("NoNet", opened, rows)
                else:
                    told = opened(rows)
                    self.assertEqual(told, runs)
                    self.assertEqual(net_of(told), told)
                seen.add(type(told).__name__)
                self.assertEqual(rows, kept)
        self.assertEqual(seen, {"list", "NoNet"})

    def test_the_list_is_the_askers_own(self):
        rows = read_rows("run a b 1")
        told = opened(rows=rows)
        told.clear()
        self.assertEqual(opened(rows), named("a-b"))


if __name__ == "__main__":
    unittest.main()
