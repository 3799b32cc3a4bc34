"""The error classes: their names, their base, and attributes where the landed functions raise them."""

import unittest

from notbehind import errors
from notbehind.book import Stopped, replayed
from notbehind.errors import (
    BadCount, BadName, BadRow, BadShare, BadSize, BadText, InUse, Lacking, NotBehindError, NotExact, TakenName, UnknownName,
    WrongKind,
)
from notbehind.exact import mean
from notbehind.exactly import exact_share
from notbehind.folding import kept
from notbehind.plans import Plan
from notbehind.rows import most_rounds, place_of
from notbehind.tables import Table
from notbehind.words import check_name, read_number
from support import Case

NAMES = [
    "BadNumber", "DivisionByZero", "BadCount", "BadSize", "BadName", "BadText", "BadRow", "BadShare", "BadWeight",
    "Mismatch", "NoHelper", "NotExact", "Lacking", "GameOver", "NothingToTakeBack", "UnknownName", "TakenName",
    "WrongKind", "InUse",
]


class ErrorClasses(Case):
    def test_the_base_class_is_a_value_error(self):
        self.assertEqual(NotBehindError.__bases__, (ValueError,))

    def test_each_class_has_it_as_its_only_base(self):
        for name in NAMES:
            with self.subTest(name=name):
                self.assertEqual(getattr(errors, name).__bases__, (NotBehindError,))
        self.assertEqual(Stopped.__bases__, (NotBehindError,))

    def test_attributes_are_set(self):
        self.raises(BadCount, {"found": 6, "low": 1, "high": 5}, most_rounds, 6)
        self.raises(BadSize, {"found": 0, "due": 1}, mean, [])
        self.raises(BadName, {"found": "A"}, check_name, "A")
        self.raises(BadText, {"line": 1}, read_number, "x")
        self.raises(BadRow, {"found": "2"}, place_of, "2")
        self.raises(BadShare, {"at": ""}, Plan, 2, 1, [[1, 1]])
        self.raises(NotExact, {"beginning": None}, exact_share, 5, 0)
        self.raises(Lacking, {"amount": (1, 2)}, kept, Table(2, 1, [0, 0]))
        book = replayed("even a 2 1\nmisses b a")
        self.raises(UnknownName, {"name": "c"}, book, "c")
        self.raises(TakenName, {"name": "a"}, book.do, "even a 2 1")
        self.raises(WrongKind, {"name": "a"}, book.do, "keeper c a")
        self.raises(InUse, {"name": "a", "user": "b"}, book.do, "drop a")
        self.raises(Stopped, {"line": 2}, book.run, "even c 2 1\neven c 2 1")

    def test_they_are_caught_by_the_base_class_and_as_value_errors(self):
        with self.assertRaises(NotBehindError):
            most_rounds(0)
        with self.assertRaises(ValueError):
            most_rounds(0)

    def test_an_error_about_a_huge_integer_can_be_shown(self):
        try:
            most_rounds(10 ** 5000)
        except BadCount as error:
            self.assertEqual(error.found, 10 ** 5000)
            self.assertIsInstance(str(error), str)


if __name__ == "__main__":
    unittest.main()
