"""The refusals: twelve classes, each right under TileError."""

import unittest

from tilefall import errors

TEXT_CLASSES = (
    "NoNumber", "NoNet", "NoBell", "NoSum", "TooMany", "NoText",
    "NoPost", "Fallen", "NoRun", "Gone", "NoRow",
)
ALL_CLASSES = TEXT_CLASSES + ("NoWish",)


def class_called(name):
    return getattr(errors, name)


class TheClasses(unittest.TestCase):
    def test_tile_error_is_right_under_value_error(self):
        self.assertEqual(errors.TileError.__bases__, (ValueError,))

    def test_each_is_right_under_tile_error(self):
        for name in ALL_CLASSES:
            with self.subTest(name):
                self.assertEqual(class_called(name).__bases__, (errors.TileError,))
                self.assertEqual(class_called(name).__name__, name)

    def test_none_is_under_another_one(self):
        for name in ALL_CLASSES:
            for other in ALL_CLASSES:
                with self.subTest(name=name, other=other):
                    self.assertEqual(issubclass(class_called(name), class_called(other)), name == other)


class TheErrors(unittest.TestCase):
    def test_each_is_made_of_a_text(self):
        for name in ("TileError",) + TEXT_CLASSES:
            with self.subTest(name):
                self.assertEqual(str(class_called(name)("some words")), "some words")

    def test_each_is_taken_as_tile_error_and_as_value_error(self):
        for name in ALL_CLASSES:
            for taken in (errors.TileError, ValueError):
                with self.subTest(name=name, taken=taken), self.assertRaises(taken):
                    raise class_called(name)("some words" if name != "NoWish" else 0)

    def test_no_wish_has_the_field_at(self):
        for at in (0, 1, 119, None):
            with self.subTest(at=at):
                self.assertEqual(errors.NoWish(at).at, at)

    def test_no_wish_takes_at_by_its_name(self):
        self.assertEqual(errors.NoWish(at=7).at, 7)

    def test_no_wish_is_made_of_nothing_less(self):
        with self.assertRaises(TypeError):
            errors.NoWish()


if __name__ == "__main__":
    unittest.main()
