"""Filling of levels, and folds, keepers, breakers, bars and exact tables of any width."""

from notbehind.errors import NotExact
from notbehind.levels import chances_of, filled_in, shares_of, step_of
from notbehind.misses import even_misses, misses_table
from notbehind.plans import Plan
from notbehind.ratios import checked, checked_all, mean_of, minus, plus
from notbehind.rows import beginnings_of
from notbehind.shapes import MOST_WIDTH, check_count, nexts_of
from notbehind.sharings import is_sharing
from notbehind.tables import behind, means, rows_with, worked_back


def checked_levels(levels):
    """The fractions equal to the numbers of a list of levels."""
    check_count(len(levels), 1, MOST_WIDTH)
    return checked_all(levels)


def fill(levels):
    """The step of the levels: the height less 1."""
    return step_of(checked_levels(levels))


def fill_shares(levels):
    """The shares of the outcomes, a tuple."""
    return shares_of(checked_levels(levels))


def filled(levels):
    """The list of the filled outcomes, integers, ascending."""
    return filled_in(checked_levels(levels))


def fill_chances(levels):
    """The chances of the outcomes, a tuple."""
    return chances_of(checked_levels(levels))


def is_fill(levels, number):
    """True if the number is the step of the levels."""
    step = fill(levels)
    return checked(number) == step


def wide_folds(table):
    """The list of the folds behind all beginnings, in the order of all beginnings."""
    return worked_back(table, step_of)


def wide_fold(table):
    """The fold of the table."""
    return wide_folds(table)[0]


def wide_behind(table, beginning):
    """The fold behind a beginning of any length."""
    return wide_fold(behind(table, beginning))


def wide_keeper(table):
    """The keeper of the table: no chooser stays further below all cells at once."""
    parts = nexts_of(wide_folds(table), table.width)
    return Plan(table.width, table.rounds, [shares_of(levels) for levels in parts])


def wide_breaker(table):
    """The breaker of the table: a foe under which no chooser stays further below the cells."""
    parts = nexts_of(wide_folds(table), table.width)
    return Plan(table.width, table.rounds, [chances_of(levels) for levels in parts])


def wide_value_paper(table):
    """The value paper of the fold, the keeper and the breaker."""
    return (wide_fold(table), wide_keeper(table), wide_breaker(table))


def wide_bounds_paper(table):
    """The keeper if it keeps the table, otherwise the breaker, behind the word that says so."""
    above, _ = wide_fold(table)
    if above >= 0:
        return ("kept", wide_keeper(table))
    return ("broken", wide_breaker(table))


def wide_tight_rows(chooser, table):
    """The list of the rows, ascending, on which the slack of the chooser is the fold."""
    return rows_with(table - misses_table(chooser), wide_fold(table))


def even_shares(levels):
    """What would be the shares if the levels were the means behind the next beginnings of an exact table."""
    height = plus((1, len(levels)), mean_of(levels))
    return tuple([minus(height, level) for level in levels])


def exact_shares(levels):
    """The shares, a tuple, of the chooser whose misses have these means behind the next beginnings."""
    shares = even_shares(checked_levels(levels))
    if not is_sharing(shares):
        raise NotExact(None)
    return shares


def shares_by_means(table):
    """The list of the even shares at the inner beginnings, in order."""
    return [even_shares(levels) for levels in nexts_of(means(table), table.width)]


def wide_bars(table):
    """The list of all wide bars, in order."""
    beginnings = beginnings_of(table.rounds, width=table.width)
    # The shares always sum to 1, so what is no sharing has a share below 0: a mean above the limit.
    return [beginning for beginning, shares in zip(beginnings, shares_by_means(table)) if not is_sharing(shares)]


def is_even_mean(table):
    """True if the mean of the table is the even misses of its shape."""
    return mean_of(table.cells) == even_misses(table.width, table.rounds)


def is_exact_wide(table):
    """True if the table is the table of misses of a chooser."""
    return is_even_mean(table) and wide_bars(table) == []


def exact_chooser_wide(table):
    """The chooser whose table of misses it is."""
    if not is_even_mean(table):
        raise NotExact(None)
    barred = wide_bars(table)
    if barred != []:
        raise NotExact(barred[0])
    return Plan(table.width, table.rounds, shares_by_means(table))
