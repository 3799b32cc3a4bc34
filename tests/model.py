"""What the document tells of steps and folds, over Fraction and in another way than the program works."""

import itertools
from fractions import Fraction

from support import inner_texts, texts, value_of

HALF = Fraction(1, 2)


def two_step(zero, one):
    """Point 26: the step, the share of outcome 1 and the chances."""
    if abs(zero - one) <= 1:
        return (zero + one - 1) / 2, (zero - one + 1) / 2, (HALF, HALF)
    if one < zero:
        return one, Fraction(1), (Fraction(0), Fraction(1))
    return zero, Fraction(0), (Fraction(1), Fraction(0))


def filling(levels):
    """Point 33: the step, the shares, the filled outcomes and the chances."""
    for many in range(1, len(levels) + 1):
        for under in itertools.combinations(range(len(levels)), many):
            height = (1 + sum(levels[y] for y in under)) / Fraction(many)
            if all((levels[y] < height) == (y in under) for y in range(len(levels))):
                shares = [max(height - level, Fraction(0)) for level in levels]
                filled = [y for y, level in enumerate(levels) if level <= height]
                chances = [Fraction(int(y in filled), len(filled)) for y in range(len(levels))]
                return height - 1, shares, filled, chances
    raise AssertionError("there is always one height")


def cells_by_row(table):
    return {row: value_of(table(row)) for row in texts(table.width, table.rounds)}


def folds_of(table, step):
    """The folds behind all beginnings, by beginning; step tells one from the list of the next folds."""
    found = cells_by_row(table)
    for beginning in reversed(inner_texts(table.width, table.rounds)):
        found[beginning] = step([found[beginning + outcome] for outcome in texts(table.width, 1)])
    return found


def wide_folds(table):
    return folds_of(table, lambda levels: filling(levels)[0])


def means_of(table):
    return folds_of(table, lambda levels: sum(levels) / Fraction(len(levels)))


def misses_on(plan, text):
    return sum((1 - value_of(plan(text[:at])[int(outcome)]) for at, outcome in enumerate(text)), Fraction(0))


def chance_of(foe, text):
    found = Fraction(1)
    for at, outcome in enumerate(text):
        found *= value_of(foe(text[:at])[int(outcome)])
    return found


def lowest_misses(foe):
    found = Fraction(0)
    for beginning in inner_texts(foe.width, foe.rounds):
        found += chance_of(foe, beginning) * (1 - max(value_of(share) for share in foe(beginning)))
    return found


def mean_by(foe, table):
    return sum((chance_of(foe, row) * cell for row, cell in cells_by_row(table).items()), Fraction(0))


def slacks(chooser, table):
    return {row: cell - misses_on(chooser, row) for row, cell in cells_by_row(table).items()}
