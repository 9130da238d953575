"""The desk [25], [26]: each row and its answer, held against the stages, and each refusal in its order."""

import sys
import unittest
from fractions import Fraction

from helpers import Refuses, told_of, worth
from tilefall.cuts import kept_still, least_cut
from tilefall.desk import Desk
from tilefall.hall import Hall
from tilefall.makes import made_net
from tilefall.opening import opened
from tilefall.rows import read_rows
from tilefall.thins import far_from, thinned

TEXT = "row 1 a b c ; run c d 3/2 ; run a d 4 ; star 1/2 x y.z"

# Rows that are none, whatever net there is.
NO_ROWS = (
    "", " ", "net", "nets run a b 1", "Net run a b 1", " net run a b 1", "push", "push ", "push  a", " push a", "push a ",
    "push a b", "push A", "push a.b.c.d.e", "push abcdefghi", "push 1", "push a\n", "pusha", "Push a", "PUSH a", "push\ta",
    "take", "take ", "take a", "take -1", "take 00", "take 01", "take 1000", "take 0 0", "take 1/2", "take +1", "take 1.0",
    "take -0", "take 0000", "take \u0661", "take 1_0", "go", "go ", "go a", "go -1", "go -1/2", "go -0", "go 00", "go 01",
    "go 0/1", "go 2/4", "go 1/1", "go 3/0", "go 1/01", "go 1.5", "go 1 1", "go  1", "go 1234567890123", "go 1/1234567890123",
    "go +1", "go 1/-2", "now ", "now a", "now now", " now", "Now", "NOW", "now\n", "fell", "fell A", "fell a b", "fell 1",
    "fell a.", "tiles", "tiles a", "tiles -1", "tiles 01", "tiles 1000", "tiles 0 1", "cut", "cut a", "cut a b c", "cut A b",
    "cut a B", "cut a  b", "cut a 1", "far", "far a", "far a b c", "far A b", "far a B", "far 1 a", "thin ", "thin a", "thin 0",
    "thins", "make", "make 1", "make 1 as", "make 1 as ", "make 1 a=1", "make 1 in a=1", "make as a=1", "make 1 as a=1 b=2",
    "make 1  as a=1", "make 1, as a=1", "make ,1 as a=1", "make 1,,2 as a=1", "make 1, 2 as a=1", "make 0 as a=1",
    "make -1 as a=1", "make 1/1 as a=1", "make 2/4 as a=1", "make 01 as a=1", "make 1,2,3,4,5,6,7 as a=1", "make 1 as a",
    "make 1 as a=", "make 1 as =1", "make 1 as a==1", "make 1 as a=1=2", "make 1 as a=1,", "make 1 as ,a=1",
    "make 1 as a=1,,b=2", "make 1 as a=1,a=2", "make 1 as a=1,b=2,a=1", "make 1 as A=1", "make 1 as a=-1", "make 1 as a=01",
    "make 1 as a=2/2", "make 1 as a=x", "make 1 as a.b.c.d.e=1", "make 1 as a:1", "make 1 As a=1", "make a as a=1",
    "make 1 as a=1;b=2", "make 1 as " + ",".join(name + "=1" for name in "abcdefghijklm"), "help", "ok", "-", "stop", "row 1 a b",
    "run a b 1", "end", ";", "now ; now", "\n", "\u00e4",
)

NO_KINDS = (None, True, False, 0, 1, 1.5, b"now", [], ["now"], ("now",), {}, {"now": 1}, object(), str)

# Rows that are right, but ask for a net.
NET_ROWS = ("push a", "take 0", "go 1", "go 0", "now", "fell a", "tiles 0", "cut a b", "cut a a", "far a b", "thin", "take 999")


def net_told(text):
    return opened(read_rows(text))


def desk_with(*rows):
    desk = Desk()
    for row in rows:
        desk.say(row)
    return desk


class Answers(unittest.TestCase):
    def assert_said(self, desk, pairs):
        for row, told in pairs:
            with self.subTest(row=row):
                self.assertEqual(desk.say(row), told)

    def test_a_whole_row_of_rows(self):
        self.assert_said(Desk(), (
            ("net " + TEXT, "ok"), ("now", "0"), ("push a", "ok"), ("fell a", "0"), ("fell b", "stands"), ("go 0", "-"),
            ("go 1/2", "-"), ("now", "1/2"), ("tiles 0", "1/2 1"), ("tiles 3", "1/8 1"), ("tiles 1", "0 1"),
            ("go 3/4", "falls 1 b; swept 1 0"), ("now", "5/4"), ("tiles 0", "none"), ("tiles 1", "1/4 1"),
            ("push d", "ok"), ("go 2", "falls 2 c; swept 2 1; met 19/8 2 1/4; met 21/8 3 21/32"),
            ("fell d", "5/4"), ("fell c", "2"), ("fell x", "stands"), ("take 4", "ok"), ("tiles 4", "none"), ("push x", "ok"),
            ("go 100", "-"), ("now", "413/4"), ("fell y.z", "stands"), ("fell x", "13/4"),
        ))

    def test_the_words_of_what_happens(self):
        self.assert_said(Desk(), (
            ("net run a a.b 3/2 ; run c d 3 ; star 1/3 e f", "ok"), ("push a", "ok"), ("push c", "ok"), ("go 1", "-"),
            ("push d", "ok"), ("go 1", "falls 3/2 a.b; swept 3/2 0; met 2 1 2/3"), ("push f", "ok"), ("go 1", "falls 7/3 e; swept 7/3 2"),
        ))

    def test_it_answers_as_the_stages_tell(self):
        net = net_told(TEXT)
        desk = desk_with("net " + TEXT)
        posts = ("a", "b", "c", "d", "x", "y.z")
        for one in posts:
            for other in posts:
                far = far_from(net, one, other)
                with self.subTest(one=one, other=other):
                    self.assertEqual(desk.say(f"far {one} {other}"), "none" if far is None else self.shown(far))
                    if one != other:
                        cut = least_cut(net, [one], other)[0]
                        told = desk.say(f"cut {one} {other}")
                        numbers = [] if told == "-" else [int(word) for word in told.split(" ")]
                        self.assertEqual(numbers, sorted(set(numbers)))
                        self.assertEqual(len(numbers), len(cut))
                        self.assertTrue(kept_still(net, [one], other, numbers))
        self.assertEqual(desk.say("thin"), " ".join(str(number) for number in thinned(net)))

    def shown(self, told):
        return str(Fraction(*told))

    def test_cut_far_and_thin(self):
        self.assert_said(desk_with("net run a b 1 ; run b a 2 ; run b c 1/2 ; run d e 1"), (
            ("cut a b", "0 1"), ("cut a c", "2"), ("cut a d", "-"), ("far a b", "1"), ("far c a", "3/2"), ("far a a", "0"),
            ("far a d", "none"), ("thin", "0 2 3"),
        ))

    def test_they_speak_of_the_net_whatever_is_out(self):
        self.assert_said(desk_with("net run a b 1 ; run b a 2", "take 0", "push a", "go 9"), (
            ("cut a b", "0 1"), ("far a b", "1"), ("thin", "0"),
        ))

    def test_numbers_of_two_and_three_figures(self):
        names = " ".join([one + other for one in "abcdefghijk" for other in "abcdefghijk"])
        desk = desk_with("net row 1 " + names)
        self.assert_said(desk, (
            ("take 119", "ok"), ("take 10", "ok"), ("tiles 119", "none"), ("tiles 118", "0 1"), ("far aa kk", "120"),
            ("cut aa ab", "0"), ("thin", " ".join(str(number) for number in range(120))),
        ))

    def test_times_of_twelve_figures(self):
        self.assert_said(desk_with("net run a b 1/999999999999 ; run b c 999999999998/999999999999"), (
            ("push a", "ok"), ("go 1/999999999999", "falls 1/999999999999 b; swept 1/999999999999 0"),
            ("go 999999999999", "falls 1 c; swept 1 1"), ("now", "999999999998000000000002/999999999999"),
        ))

    def test_moments_of_some_thousand_figures(self):
        desk, now = desk_with("net run a b 1"), Fraction(0)
        for less in range(600):
            bottom = 10 ** 12 - 1 - less
            self.assertEqual(desk.say(f"go 1/{bottom}"), "-")
            now += Fraction(1, bottom)
        kept = sys.get_int_max_str_digits()
        sys.set_int_max_str_digits(0)
        try:
            expected = str(now)
        finally:
            sys.set_int_max_str_digits(kept)
        self.assertGreater(len(expected), 2 * kept)
        self.assertEqual(desk.say("now"), expected)

    def test_against_a_hall(self):
        hall, desk = Hall(net_told(TEXT)), desk_with("net " + TEXT)
        for post in ("b", "x"):
            hall.push(post)
            self.assertEqual(desk.say("push " + post), "ok")
        for time in ("1/3", "1/6", "0", "1", "7/5", "12"):
            words = []
            for event in hall.go(told_of(Fraction(time))):
                words.append(" ".join([
                    str(Fraction(*part)) if isinstance(part, tuple) else str(part) for part in event]))
            self.assertEqual(desk.say("go " + time), "; ".join(words) or "-")
            self.assertEqual(desk.say("now"), str(worth(hall.now())))
            for number in range(5):
                tiles = hall.tiles(number)
                told = "none" if tiles is None else " ".join(str(worth(share)) for share in tiles)
                self.assertEqual(desk.say(f"tiles {number}"), told)
            for post in ("a", "b", "c", "d", "x", "y.z"):
                moment = hall.fallen().get(post)
                self.assertEqual(desk.say("fell " + post), "stands" if moment is None else str(worth(moment)))

    def test_a_second_net_in_the_place_of_the_first(self):
        desk = desk_with("net run a b 1", "push a", "go 1/2")
        self.assert_said(desk, (("net run a c 2", "ok"), ("now", "0"), ("fell a", "stands"), ("push c", "ok"),
                                ("go 2", "falls 2 a; swept 2 0")))

    def test_two_desks_beside_each_other(self):
        one, other = desk_with("net run a b 1", "push a"), desk_with("net run a b 1")
        self.assertEqual(one.say("go 1"), "falls 1 b; swept 1 0")
        self.assertEqual(other.say("now"), "0")
        self.assertEqual(other.say("fell a"), "stands")


class Makes(Refuses):
    def test_made_texts(self):
        desk = Desk()
        for row, told in (
            ("make 1 as bell=1", "run a b 1"),
            ("make 1,1/2 as x=1,y.z=5/2", "run a b 1 ; run b c 1 ; run c d 1/2"),
            ("make 1/2,1 as y.z=5/2,x=1,w=0", "run a b 1 ; run b c 1 ; run c d 1/2"),
            ("make 1,2,3,4,5,6 as x=6", "run a b 6"),
            ("make 1 as " + ",".join(f"{name}=1" for name in "abcdefghijkl"), "run a b 1"),
        ):
            with self.subTest(row=row):
                self.assertEqual(desk.say(row), told)

    def test_against_a_made_net(self):
        told = Desk().say("make 1/3,3/4 as a=25/12,b=1/3,c=0,d.e=25/12")
        show = {"a": (25, 12), "b": (1, 3), "c": (0, 1), "d.e": (25, 12)}
        self.assertEqual(net_told(told), made_net([(1, 3), (3, 4)], show)[0])

    def test_the_desk_s_net_stays(self):
        desk = desk_with("net run a b 1", "push a", "go 1/2")
        self.assertEqual(desk.say("make 2 as x=2"), "run a b 2")
        self.assertEqual(desk.say("now"), "1/2")
        self.assertEqual(desk.say("go 1"), "falls 1 b; swept 1 0")

    def test_a_made_net_is_no_net_of_the_desk(self):
        desk = desk_with("make 2 as x=2")
        self.assert_refused("NoNet", desk.say, "now")

    def test_more_than_sixty_runs(self):
        desk = Desk()
        told = desk.say("make 1 as x=60")
        self.assertEqual(desk.say("net " + told), "ok")
        told = desk.say("make 1 as x=61")
        self.assertEqual(len(told.split(" ; ")), 61)
        self.assert_refused("NoText", desk.say, "net " + told)
        told = desk.say("make 1 as x=120")
        self.assertEqual(told.split(" ; ")[-1], "run ep eq 1")
        self.assertEqual(len(told.split(" ; ")), 120)

    def test_refused(self):
        for desk in (Desk(), desk_with("net run a b 1")):
            for name, row in (
                ("NoSum", "make 2 as x=1"), ("NoSum", "make 1,1 as x=1"), ("NoSum", "make 1,2,1 as x=200"),
                ("NoSum", "make 1 as x=121,y=243/2"), ("TooMany", "make 1 as x=121"), ("NoNet", "make 1 as x=0"),
                ("NoNet", "make 1 as x=0,y=0"), ("NoSum", "make 1/2,1/2 as x=1"),
            ):
                with self.subTest(row=row):
                    self.assert_refused(name, desk.say, row)


class Refusals(Refuses):
    def everything(self, desk):
        rows = ["now", "thin", "far a d"] + [f"tiles {number}" for number in range(5)]
        rows.extend("fell " + post for post in ("a", "b", "c", "d", "x", "y.z"))
        return [desk.say(row) for row in rows]

    def begun(self):
        return desk_with("net " + TEXT, "push a", "go 5/4", "take 4")

    def test_no_row_without_and_with_a_net(self):
        empty, begun = Desk(), self.begun()
        for row in NO_ROWS + NO_KINDS:
            with self.subTest(row=row):
                self.assert_refused("NoRow", empty.say, row)
                self.assert_refused("NoRow", begun.say, row)

    def test_no_net_yet(self):
        desk = Desk()
        for row in NET_ROWS:
            with self.subTest(row=row):
                self.assert_refused("NoNet", desk.say, row)
        self.assert_refused("NoText", desk.say, "net run a b")
        self.assert_refused("NoNet", desk.say, "now")
        self.assertEqual(desk.say(row="make 1 as x=1"), "run a b 1")

    def test_a_net_that_is_refused(self):
        names = " ".join([one + other for one in "abcdefghijk" for other in "abcdefghijk"])
        for name, row in (
            ("NoText", "net "), ("NoText", "net  run a b 1"), ("NoText", "net run a b 1 "), ("NoText", "net run a b 0"),
            ("NoText", "net run a b 1; run a b 1"), ("NoText", "net net run a b 1"), ("NoText", "net a"),
            ("NoText", "net " + " ; ".join(["run a b 1"] * 61)), ("NoNet", "net run a a 1"),
            ("NoNet", "net piece p x ; run x y 1 ; end"), ("TooMany", "net ring 1 " + names),
            ("TooMany", "net run a a 1 ; row 1 " + names),
        ):
            with self.subTest(row=row):
                self.assert_refused(name, Desk().say, row)
                desk = self.begun()
                before = self.everything(desk)
                self.assert_refused(name, desk.say, row)
                self.assertEqual(self.everything(desk), before)

    def test_as_the_stages_tell(self):
        desk = self.begun()
        before = self.everything(desk)
        for name, row in (
            ("NoPost", "push e"), ("NoPost", "push a.b"), ("Fallen", "push a"), ("Fallen", "push b"), ("NoRun", "take 5"),
            ("NoRun", "take 999"), ("Gone", "take 0"), ("Gone", "take 4"), ("NoPost", "fell e"), ("NoRun", "tiles 5"),
            ("NoRun", "tiles 100"), ("NoPost", "cut e a"), ("NoPost", "cut a e"), ("NoPost", "cut e e"),
            ("NoPost", "cut e f"), ("NoBell", "cut a a"), ("NoPost", "far e a"), ("NoPost", "far a e"), ("NoPost", "far e e"),
        ):
            with self.subTest(row=row):
                self.assert_refused(name, desk.say, row)
                self.assertEqual(self.everything(desk), before)
        self.assertEqual(desk.say("go 9"), self.begun().say("go 9"))

    def test_no_row_changes_anything(self):
        desk = self.begun()
        before = self.everything(desk)
        for row in NO_ROWS:
            self.assert_refused("NoRow", desk.say, row)
        self.assertEqual(self.everything(desk), before)


if __name__ == "__main__":
    unittest.main()
