"""Folds of tables of width 2, their keepers and their breakers."""

from notbehind.errors import Lacking
from notbehind.filling import (
    fill, fill_chances, fill_shares, wide_behind, wide_breaker, wide_fold, wide_folds, wide_keeper,
)
from notbehind.ratios import ZERO, greatest_of, opposite
from notbehind.shapes import check_two


def step(zero, one):
    """The step of the folds behind the two next beginnings."""
    return fill([zero, one])


def step_share(zero, one):
    """The share of outcome 1 where these are the folds behind the two next beginnings."""
    return fill_shares([zero, one])[1]


def step_chances(zero, one):
    """The chances of outcomes 0 and 1 where these are the folds behind the two next beginnings."""
    return fill_chances([zero, one])


def fold(table):
    """The fold of the table: how far a chooser can stay below all cells at once."""
    check_two(table)
    return wide_fold(table)


def fold_behind(table, beginning):
    """The fold behind a beginning of any length."""
    check_two(table)
    return wide_behind(table, beginning)


def folds(table):
    """The list of the folds behind all beginnings, in the order of all beginnings."""
    check_two(table)
    return wide_folds(table)


def can_keep(table):
    """True if some chooser keeps the table."""
    return lack(table) == ZERO


def lack(table):
    """The least number that must be added to all cells such that a chooser can keep the table."""
    return greatest_of([opposite(fold(table)), ZERO])


def keeper(table):
    """The chooser that stays as far below all cells as the fold tells."""
    check_two(table)
    return wide_keeper(table)


def breaker(table):
    """The foe under which no chooser stays further below the cells."""
    check_two(table)
    return wide_breaker(table)


def kept(table):
    """The keeper of a table that can be kept."""
    amount = lack(table)
    if amount != ZERO:
        raise Lacking(amount)
    return keeper(table)
