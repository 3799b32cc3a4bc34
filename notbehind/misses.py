"""Misses of choosers, chances under foes, and tables that are kept."""

from notbehind.plans import Plan
from notbehind.ratios import ONE, ZERO, dot_of, greatest_of, minus, sum_of, times
from notbehind.rows import rows_of
from notbehind.shapes import (
    OUTCOMES, check_beginning, check_inner, check_outcome, check_row, check_same_shape, check_shape,
)
from notbehind.sharings import sure_sharing
from notbehind.tables import Table, first_above, products_along, summed_table


def share_at(plan, beginning, outcome):
    """The share of an outcome at an inner beginning; both are right."""
    return plan(beginning)[OUTCOMES.index(outcome)]


def shares_along(plan, beginning):
    """The list of the shares of the outcomes of a beginning, each at the beginning ahead of it."""
    return [share_at(plan, beginning[:at], outcome) for at, outcome in enumerate(beginning)]


def steps_along(plan, beginning):
    """The list of the misses of the rounds on a beginning."""
    return [minus(ONE, share) for share in shares_along(plan, beginning)]


def miss(plan, beginning, outcome):
    """The miss at an inner beginning for the outcome."""
    check_inner(beginning, plan.width, plan.rounds)
    check_outcome(outcome, plan.width)
    return minus(ONE, share_at(plan, beginning, outcome))


def row_misses(plan, beginning):
    """The misses on a beginning of any length."""
    check_beginning(beginning, plan.width, plan.rounds)
    return sum_of(steps_along(plan, beginning))


def miss_steps(plan, row):
    """The list of the misses of the rounds on a row, in order."""
    check_row(row, plan.width, plan.rounds)
    return steps_along(plan, row)


def miss_lists(plan):
    """The list of the misses at each inner beginning, in order, each a list by outcome."""
    return [[minus(ONE, share) for share in sharing] for sharing in plan.shares]


def misses_table(plan):
    """The table of misses."""
    return summed_table(plan.width, plan.rounds, miss_lists(plan))


def all_chances(foe):
    """The list of the chances of all beginnings, in the order of all beginnings."""
    return products_along(foe.shares)


def chance(foe, beginning):
    """The chance of a beginning of any length."""
    check_beginning(beginning, foe.width, foe.rounds)
    found = ONE
    for share in shares_along(foe, beginning):
        found = times(found, share)
    return found


def chances(foe):
    """The Table of the chances of the rows."""
    return Table(foe.width, foe.rounds, all_chances(foe)[len(foe):])


def reached(foe):
    """The list of the rows whose chance is above 0, ascending."""
    rows = rows_of(foe.rounds, width=foe.width)
    return [row for row, found in zip(rows, chances(foe).cells) if found != ZERO]


def mean_under(foe, table):
    """The mean of the table under the foe."""
    check_same_shape(foe, table)
    return dot_of(chances(foe).cells, table.cells)


def mean_misses(chooser, foe):
    """The mean misses of the chooser under the foe."""
    return mean_under(foe, misses_table(chooser))


def least_steps(foe):
    """The list of the least mean misses in the round behind each inner beginning, in order."""
    return [minus(ONE, greatest_of(sharing)) for sharing in foe.shares]


def least_misses(foe):
    """The least misses of the foe: no chooser has lesser mean misses under it."""
    return dot_of(all_chances(foe)[:len(foe)], least_steps(foe))


def best_reply(foe):
    """The Plan that gives the share 1 to the least one of the likeliest outcomes."""
    likeliest = [sharing.index(greatest_of(sharing)) for sharing in foe.shares]
    return Plan(foe.width, foe.rounds, [sure_sharing(foe.width, outcome) for outcome in likeliest])


def even_misses(width, rounds):
    """The even misses of the shape."""
    check_shape(width, rounds)
    return times((rounds, 1), (width - 1, width))


def first_over(chooser, table):
    """The first row on which the misses are above the cell, or None."""
    return first_above(misses_table(chooser), table)


def keeps(chooser, table):
    """True if the misses are on no row above the cell."""
    return first_over(chooser, table) is None
