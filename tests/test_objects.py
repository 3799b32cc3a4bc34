"""Point 4: what `==` answers for objects of other classes of the program and for values of Python's own kinds."""

import unittest

from notbehind.book import Book
from notbehind.changes import Folded
from notbehind.games import Game
from notbehind.machines import constant_machine
from notbehind.plans import even_plan
from notbehind.sides import SidePlan, Sided
from notbehind.sleepers import Sleeper
from notbehind.stakes import Picks, Stakes
from notbehind.tables import flat
from support import NOT_NUMBERS, Case


def compared():
    """An object of each class that tells what `==` answers, all as alike as their classes let them be."""
    return [
        flat(1, 0, 0), flat(2, 1, 1), even_plan(1, 0), even_plan(2, 1), constant_machine(1, [1]),
        constant_machine(2, [1, 0]), Stakes(1, [[0], [0]]), Stakes(2, [[1, 1], [1, 1]]), Picks(1, 0, []), Picks(2, 1, [1]),
        Sided(1, 1, 0, [flat(1, 0, 0)]), Sided(1, 2, 1, [flat(2, 1, 1)]), Sided(2, 2, 0, [flat(2, 0, 0)]),
        SidePlan(1, 1, 0, []), SidePlan(1, 2, 1, [[(1, 2), (1, 2)]]), SidePlan(2, 2, 0, []),
    ]


def others():
    """Objects of the classes that say nothing of `==`."""
    book = Book()
    book.do("table a 2 1 1 1")
    return [
        Sleeper(even_plan(1, 0), []), Sleeper(even_plan(2, 1), []), Game(even_plan(2, 1), flat(2, 1, 1)),
        Folded(flat(2, 1, 1)), Book(), book,
    ]


class Equality(Case):
    def test_equal_objects_of_one_class(self):
        for thing, again in zip(compared(), compared()):
            self.same(thing == again, True)
            self.same(thing == thing, True)

    def test_objects_of_other_classes_and_unlike_ones(self):
        things = compared()
        for at, thing in enumerate(things):
            for other in things[:at] + things[at + 1:]:
                self.same(thing == other, False)
            for other in others():
                self.same(thing == other, False)

    def test_values_of_other_kinds(self):
        for thing in compared():
            for value in [*NOT_NUMBERS, 0, 1, (1, 2), "0", [(0, 1)], (0, 1), set(), compared, Stakes]:
                self.same(thing == value, False)


if __name__ == "__main__":
    unittest.main()
