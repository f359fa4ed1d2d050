"""The refusals: their classes, and the fields that they keep."""

import unittest

from classtab.errors import (
    NoAlike, NoGroup, NoLines, NoName, NoOrder, NoPart, NoPerm, NoRow, NoShares, NoTable, NoText, TableError, TooMany,
)

WITH_FIELDS = [
    (NoGroup, ("word", "thing"), [("shape", 0), ("three", 59)]),
    (NoPerm, ("number",), [(0,), (7,)]),
    (NoTable, ("word", "number"), [("first", 3), ("twice", 15)]),
    (NoShares, ("word", "number"), [("pure", 2), ("sum", 0)]),
    (NoAlike, ("word",), [("shape",), ("case",)]),
    (NoLines, ("row",), [(0,), (17,)]),
    (NoName, ("name",), [("abc",), ("z",)]),
]
WITH_TEXT = [TooMany, NoOrder, NoPart, NoText, NoRow]
ALL = [row[0] for row in WITH_FIELDS] + WITH_TEXT


class Errors(unittest.TestCase):
    def test_base_stands_under_value_error(self):
        self.assertEqual(TableError.__bases__, (ValueError,))
        with self.assertRaises(ValueError):
            raise TableError("any")

    def test_each_stands_straight_under_the_base(self):
        self.assertEqual(len(ALL), 12)
        for kind in ALL:
            self.assertEqual(kind.__bases__, (TableError,), kind)

    def test_none_stands_under_another(self):
        for kind in ALL:
            for other in ALL:
                self.assertEqual(issubclass(kind, other), kind is other)

    def test_names(self):
        for kind in ALL:
            self.assertEqual(kind.__module__, "classtab.errors")

    def test_fields(self):
        for kind, names, makings in WITH_FIELDS:
            for making in makings:
                made = kind(*making)
                for name, value in zip(names, making):
                    self.assertEqual(repr(getattr(made, name)), repr(value))
                with self.assertRaises(TableError) as caught:
                    raise made
                self.assertIs(caught.exception, made)

    def test_fields_are_each_ones_own(self):
        one = NoGroup("one", 1)
        other = NoGroup("back", 2)
        self.assertEqual((one.word, one.thing, other.word, other.thing), ("one", 1, "back", 2))

    def test_made_of_a_text(self):
        for kind in WITH_TEXT:
            for text in ("", "some words", "a" * 500):
                with self.assertRaises(kind) as caught:
                    raise kind(text)
                self.assertIsInstance(caught.exception, TableError)
                self.assertIsInstance(caught.exception, ValueError)


if __name__ == "__main__":
    unittest.main()
