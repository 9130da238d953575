"""Texts of nets, read and written [20], [21]."""

import copy
import random
import unittest

from helpers import Refuses
from tilefall.rows import read_rows, shown_rows

RUN = "run a b 1"
PIECE = "piece p x ; run x y 1 ; end"

NO_TEXTS = (
    # Blanks: none or more between words, at an end, around the semicolon.
    "", " ", "runab1", "run a b1", "run  a b 1", "run a  b 1", "run a b  1", " run a b 1", "run a b 1 ",
    "run a b 1;run a b 1", "run a b 1; run a b 1", "run a b 1 ;run a b 1", "run a b 1  ; run a b 1",
    "run a b 1 ;  run a b 1", "run a b 1 ; ", " ; run a b 1", "run a b 1 ;", "; run a b 1", ";", " ; ", "run a b 1 ; ; run a b 1",
    "run a b 1 ;; run a b 1", "run a ; b 1", "run a b 1\n", "\nrun a b 1", "run\ta b 1", "run a b 1 ;\nrun a b 1",
    "run a b 1\n;\nrun a b 1", "run a;b c 1", "run a b 1 , run a b 1",
    # Words too few, too many, unknown, in another order.
    "run", "run a", "run a b", "run a 1", "run a b 1 1", "run a b c 1", "run 1 a b", "row", "row 1", "row 1 a", "row a b",
    "row a b 1", "row 1 2 a b", "star", "star 1", "star 1 a", "star a b 1", "ring", "ring 1", "ring 1 a", "ring 1 a b",
    "ring a b c 1", "Run a b 1", "RUN a b 1", "runs a b 1", "rows 1 a b", "a b 1", "1", "a", "path 1 a b", "net run a b 1",
    "row 1 a b 1", "star 1 a b 1",
    # Names of five parts, nine letters, none, and other signs.
    "run a.b.c.d.e b 1", "run a b.b.b.b.b 1", "run abcdefghi b 1", "run a abcdefghi 1", "run a. b 1", "run .a b 1",
    "run a..b b 1", "run A b 1", "run a1 b 1", "run a-b c 1", "run a_b c 1", "run 1 b 1", "row 1 a B", "star 1 a b c.d.e.f.g",
    "ring 1 a b C", "row 1 abcdefghi b",
    # A piece within a piece, without rows, without end, an end without a piece.
    "piece p x ; piece q y ; run y z 1 ; end ; end", "piece p x ; run x y 1 ; piece q y ; run y z 1 ; end ; end",
    "piece p x ; end", "piece p x", "piece p x ; run x y 1", "end", RUN + " ; end", PIECE + " ; end", "piece p x ; end ; end",
    "piece p x ; run x y 1 ; end x", "piece p x ; run x y 1 ; ends", "end ; " + PIECE, "piece p x ; run x y 1 ; piece q y",
    "piece p x ; run x y 1 ; end ; piece q x ; end",
    # A piece's name, or its params, that are none or alike, or too many.
    "piece ; run x y 1 ; end", "piece p ; run x y 1 ; end", "piece p x x ; run x y 1 ; end",
    "piece p x y x ; run x y 1 ; end", "piece p.q x ; run x y 1 ; end", "piece p x.y ; run x y 1 ; end",
    "piece P x ; run x y 1 ; end", "piece p X ; run x y 1 ; end", "piece abcdefghi x ; run x y 1 ; end",
    "piece p abcdefghi ; run x y 1 ; end", "piece p a b c d e f g h i ; run a b 1 ; end", "piece  x ; run x y 1 ; end",
    "piece p  ; run x y 1 ; end", "piece p 1 ; run x y 1 ; end", "piece 1 x ; run x y 1 ; end",
    # A piece told twice.
    PIECE + " ; " + PIECE, PIECE + " ; piece p z w ; run z w 1 ; end", PIECE + " ; run a b 1 ; " + PIECE,
    # A put of what was not told ahead, was told later, in itself, or with other many posts.
    "put p s a", "put p s a ; " + PIECE, "piece p x ; put p s x ; end", PIECE + " ; put q s a", PIECE + " ; put p s",
    PIECE + " ; puts p s a", PIECE + " ; p p s a", PIECE + " ; end p s a", PIECE + " ; put p s a b", PIECE + " ; put p", PIECE + " ; put", PIECE + " ; put s p a",
    "piece q x ; put p s x ; end ; " + PIECE, "piece p x y ; run x y 1 ; end ; put p s a",
    # What it is called by, and its posts.
    PIECE + " ; put p s.t a", PIECE + " ; put p S a", PIECE + " ; put p abcdefghi a", PIECE + " ; put p 1 a",
    PIECE + " ; put p s A", PIECE + " ; put p s a.b.c.d.e", PIECE + " ; put p  a", PIECE + " ; put p s 1", PIECE + " ; put P s a",
    # What is wrong in a piece is wrong.
    "piece p x ; run x y 0 ; end", "piece p x ; run x y ; end", "piece p x ; ring 1 x y ; end", "piece p x ;  ; end",
)

NO_TIMES = (
    "0", "00", "01", "0/1", "0/2", "00/3", "1/0", "1/01", "01/2", "1/02", "2/4", "3/3", "10/5", "1/1", "7/1", "4/2",
    "1234567890123", "1/1234567890123", "1234567890123/2", "-1", "-1/2", "+1", "1/-2", "1.5", "1,5", "", "/", "/2", "1/",
    "1//2", "1/2/3", "a", "1a", "a/2", "x1", "1_0", "1e3", "\u0661", "\u00b2", "1/\u0662", "1 /2", "½",
)

NO_KINDS = (None, True, False, 0, 1, 1.5, b"run a b 1", [], ["run a b 1"], ("run a b 1",), {}, object(), str)


class ReadRows(Refuses):
    def test_each_kind_of_row(self):
        for text, told in (
            ("run a b 1", [("run", "a", "b", (1, 1))]),
            ("run a.b.c.d abcdefgh 12/7", [("run", "a.b.c.d", "abcdefgh", (12, 7))]),
            ("row 1/2 a b", [("row", (1, 2), ("a", "b"))]),
            ("row 3 a b.c d e", [("row", (3, 1), ("a", "b.c", "d", "e"))]),
            ("star 3/2 a b", [("star", (3, 2), ("a", "b"))]),
            ("star 3 a b c", [("star", (3, 1), ("a", "b", "c"))]),
            ("ring 5 a b c", [("ring", (5, 1), ("a", "b", "c"))]),
            ("ring 5 a b c d", [("ring", (5, 1), ("a", "b", "c", "d"))]),
            ("run a a 1 ; row 1 a a ; star 1 a a ; ring 1 a a a", [
                ("run", "a", "a", (1, 1)), ("row", (1, 1), ("a", "a")), ("star", (1, 1), ("a", "a")),
                ("ring", (1, 1), ("a", "a", "a"))]),
            ("run run row 1 ; row 1 end put", [("run", "run", "row", (1, 1)), ("row", (1, 1), ("end", "put"))]),
        ):
            with self.subTest(text=text):
                self.assertEqual(read_rows(text), told)

    def test_pieces_and_puts(self):
        self.assertEqual(read_rows(PIECE), [("piece", "p", ("x",), (("run", "x", "y", (1, 1)),))])
        self.assertEqual(
            read_rows("run a b 1 ; piece fork l r ; run l m 1 ; row 2/3 m r ; end ; put fork here a b.c ; star 1 a b"), [
                ("run", "a", "b", (1, 1)),
                ("piece", "fork", ("l", "r"), (("run", "l", "m", (1, 1)), ("row", (2, 3), ("m", "r")))),
                ("put", "fork", "here", ("a", "b.c")),
                ("star", (1, 1), ("a", "b")),
            ])

    def test_puts_in_pieces(self):
        self.assertEqual(
            read_rows(PIECE + " ; piece q x y ; put p s x ; put p t y ; end ; put q u a a"), [
                ("piece", "p", ("x",), (("run", "x", "y", (1, 1)),)),
                ("piece", "q", ("x", "y"), (("put", "p", "s", ("x",)), ("put", "p", "t", ("y",)))),
                ("put", "q", "u", ("a", "a")),
            ])

    def test_one_and_eight_params(self):
        self.assertEqual(
            read_rows("piece p a b c d e f g h ; row 1 a b c d e f g h ; end ; put p s a b c d e f g h")[0][2],
            ("a", "b", "c", "d", "e", "f", "g", "h"))
        self.assertEqual(read_rows("piece abcdefgh ijklmnop ; run a b 1 ; end")[0][1:3], ("abcdefgh", ("ijklmnop",)))
        self.assertEqual(read_rows("piece run end ; run end put 1 ; end")[0][1:3], ("run", ("end",)))

    def test_a_piece_called_like_a_param_or_a_row(self):
        text = "piece put put ; run put end 1 ; end ; put put put put"
        self.assertEqual(read_rows(text), [
            ("piece", "put", ("put",), (("run", "put", "end", (1, 1)),)), ("put", "put", "put", ("put",))])

    def test_from_1_to_60_rows(self):
        for count in (1, 2, 59, 60):
            with self.subTest(count=count):
                self.assertEqual(read_rows(" ; ".join([RUN] * count)), [("run", "a", "b", (1, 1))] * count)
        for count in (61, 62, 100):
            with self.subTest(count=count):
                self.assert_refused("NoText", read_rows, " ; ".join([RUN] * count))

    def test_end_is_counted_among_the_rows(self):
        self.assertEqual(len(read_rows(" ; ".join([PIECE] + [RUN] * 57))), 58)
        self.assert_refused("NoText", read_rows, " ; ".join([PIECE] + [RUN] * 58))
        inner = " ; ".join(["run x y 1"] * 58)
        self.assertEqual(len(read_rows("piece p x ; " + inner + " ; end")[0][3]), 58)
        self.assert_refused("NoText", read_rows, "piece p x ; run x y 1 ; " + inner + " ; end")

    def test_times(self):
        for word, told in (
            ("1", (1, 1)), ("10", (10, 1)), ("999999999999", (999999999999, 1)), ("1/2", (1, 2)), ("3/2", (3, 2)),
            ("1/999999999999", (1, 999999999999)), ("999999999998/999999999999", (999999999998, 999999999999)),
            ("100000000001/10", (100000000001, 10)),
        ):
            with self.subTest(word=word):
                self.assertEqual(read_rows(f"run a b {word}"), [("run", "a", "b", told)])
                self.assertEqual(read_rows(f"ring {word} a b c"), [("ring", told, ("a", "b", "c"))])

    def test_what_is_no_time(self):
        for word in NO_TIMES:
            for text in (f"run a b {word}", f"row {word} a b", f"star {word} a b", f"ring {word} a b c"):
                with self.subTest(text=text):
                    self.assert_refused("NoText", read_rows, text)

    def test_what_is_no_text_of_a_net(self):
        for text in NO_TEXTS:
            with self.subTest(text=text):
                self.assert_refused("NoText", read_rows, text)
                self.assert_refused("NoText", read_rows, RUN + " ; " + text)

    def test_the_texts_around_them_are_right(self):
        for text in (PIECE, PIECE + " ; put p s a", "piece p x y ; run x y 1 ; end ; put p s a b", RUN):
            self.assertEqual(type(read_rows(text)), list)

    def test_what_is_no_text(self):
        for thing in NO_KINDS:
            with self.subTest(thing=thing):
                self.assert_refused("NoText", read_rows, thing)

    def test_a_text_of_other_signs(self):
        for text in ("run \u00e4 b 1", "run a \u0430 1", "r\u00fcn a b 1", "run a b 1\u00a0", "run\u00a0a b 1", "run a b 1 \uff1b run a b 1"):
            with self.subTest(text=text):
                self.assert_refused("NoText", read_rows, text)

    def test_every_sign_in_the_place_of_another(self):
        text = "run a b 3/2 ; row 1 a b"
        for place in range(len(text)):
            for sign in ";,:!@A\t\n":
                other = text[:place] + sign + text[place + 1:]
                if other != text:
                    with self.subTest(text=other):
                        self.assert_refused("NoText", read_rows, other)

    def test_the_list_is_the_askers_own(self):
        told = read_rows(text=RUN)
        told.clear()
        self.assertEqual(read_rows(RUN), [("run", "a", "b", (1, 1))])


def chance_text(source):
    def word():
        return "".join(source.choice("abz") for turn in range(source.choice((1, 1, 2, 8))))

    def post():
        return ".".join(word() for turn in range(source.choice((1, 1, 2, 4))))

    def posts(count):
        return " ".join(post() for turn in range(count))

    def time():
        return source.choice(("1", "12", "1/2", "7/3", "999999999999", "1/999999999999"))

    def row(pieces):
        kind = source.choice(("run", "row", "star", "ring", "put"))
        if kind == "run":
            return f"run {posts(2)} {time()}"
        if kind == "put" and pieces:
            name = source.choice(sorted(pieces))
            return f"put {name} {word()} {posts(pieces[name])}"
        return f"{'row' if kind == 'put' else kind} {time()} {posts(source.randint(3, 5))}"

    pieces, rows = {}, []
    for turn in range(source.randint(1, 8)):
        name = word()
        if source.randint(0, 2) or name in pieces:
            rows.append(row(pieces))
        else:
            params = source.sample(("a", "b", "z", "ab", "aa", "bz", "zzzzzzzz", "c"), source.randint(1, 8))
            rows.append(f"piece {name} {' '.join(params)}")
            rows.extend(row(pieces) for turn in range(source.randint(1, 3)))
            rows.append("end")
            pieces[name] = len(params)
    return " ; ".join(rows)


class ShownRows(unittest.TestCase):
    def test_each_kind_of_row(self):
        for text in (
            "run a b.c 1/2", "row 2 a b", "star 3/2 a b c", "ring 1 a b c", PIECE, PIECE + " ; put p s a",
            "run a b 1 ; piece p x y ; row 7/2 x z y ; star 1 x y ; end ; put p s a b ; run b c 2",
            PIECE + " ; piece q x ; put p s x ; ring 1 x y z ; end ; put q t a.b ; put p u c",
        ):
            with self.subTest(text=text):
                self.assertEqual(shown_rows(read_rows(text)), text)
        self.assertEqual(shown_rows(rows=[("run", "a", "b", (1, 1))]), RUN)

    def test_what_is_read_is_written_and_read_again_alike(self):
        source = random.Random(23)
        for turn in range(300):
            text = chance_text(source)
            with self.subTest(text=text):
                rows = read_rows(text)
                kept = copy.deepcopy(rows)
                self.assertEqual(shown_rows(rows), text)
                self.assertEqual(read_rows(shown_rows(rows)), rows)
                self.assertEqual(rows, kept)

    def test_more_than_sixty_rows_are_written(self):
        self.assertEqual(shown_rows([("run", "a", "b", (1, 1))] * 70), " ; ".join([RUN] * 70))


if __name__ == "__main__":
    unittest.main()
