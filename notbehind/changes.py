"""Tables whose cells change one by one, and what helpers can still guarantee behind a beginning."""

from notbehind.errors import NoHelper, NothingToTakeBack
from notbehind.filling import wide_behind, wide_folds
from notbehind.helpers import best_table, nearest_chooser
from notbehind.plans import behind_plan
from notbehind.ratios import checked, minus
from notbehind.rows import all_beginnings
from notbehind.shapes import (
    MOST_HELPERS, check_beginning, check_count, check_helpers, check_row, check_same_shape, number_in,
)
from notbehind.tables import changed


class Folded:
    """A table and all its folds, while single cells change."""

    def __init__(self, table):
        self.width = table.width
        self.rounds = table.rounds
        self._past = []
        self._take(table)
        self._former = self._folds

    def _take(self, table):
        """Let the present table be this one."""
        self.table = table
        self.changes = len(self._past)
        self._folds = wide_folds(table)
        self.fold = self._folds[0]

    def _move_to(self, table):
        """Let the present table be this one, and keep the folds ahead of it."""
        former = self._folds
        self._take(table)
        self._former = former

    def behind(self, beginning):
        """The fold behind a beginning of any length."""
        check_beginning(beginning, self.width, self.rounds)
        return self._folds[number_in(beginning, self.width)]

    def change(self, row, number):
        """Replace the cell of the row by the number and return the new fold."""
        table = changed(self.table, row, number)
        self._past.append((row, self.table))
        self._move_to(table)
        return self.fold

    def take_back(self):
        """Undo the last change and return its row."""
        if self.changes == 0:
            raise NothingToTakeBack("no change is made")
        row, table = self._past.pop()
        self._move_to(table)
        return row

    def moved(self):
        """The list of the beginnings behind which the last change or taking back has moved the fold, in order."""
        beginnings = all_beginnings(self.rounds, width=self.width)
        return [text for text, fold, former in zip(beginnings, self._folds, self._former) if fold != former]


def still_behind(helpers, beginning, misses):
    """The least distance at the end that is guaranteed to a chooser with these misses on the beginning."""
    fold = wide_behind(best_table(helpers), beginning)
    return minus(checked(misses), fold)


def rest_chooser(helpers, beginning):
    """The nearest chooser of the helpers for the rounds that are left behind a beginning."""
    return behind_plan(nearest_chooser(helpers), beginning)


def put_in(helpers, newcomer, *, at=0):
    """The list of the helpers with the newcomer at an index."""
    check_helpers(helpers)
    check_same_shape(newcomer, helpers[0])
    check_count(at, 0, len(helpers))
    check_count(len(helpers) + 1, 1, MOST_HELPERS)
    return list(helpers[:at]) + [newcomer] + list(helpers[at:])


def taken_out(helpers, at):
    """The list of the helpers without the one with a number."""
    check_helpers(helpers)
    check_count(at, 0, len(helpers) - 1)
    if len(helpers) == 1:
        raise NoHelper("a list without a helper")
    return list(helpers[:at]) + list(helpers[at + 1:])
