"""Lists of helpers: the least of their misses, and how far a chooser must fall behind."""

from notbehind.filling import wide_breaker, wide_fold, wide_keeper
from notbehind.misses import misses_table, row_misses
from notbehind.papers import is_value_paper
from notbehind.ratios import checked, is_less, least_of, opposite, places_of_least
from notbehind.shapes import check_helpers, check_row
from notbehind.tables import highest_rows, lowest_table, rows_with


def helper_misses(helpers, row):
    """The list of the misses of the helpers on the row, in order."""
    check_helpers(helpers)
    check_row(row, helpers[0].width, helpers[0].rounds)
    return [row_misses(helper, row) for helper in helpers]


def best_misses(helpers, row):
    """The least misses of the helpers on the row."""
    return least_of(helper_misses(helpers, row))


def best_helpers(helpers, row):
    """The list of the numbers of the helpers with the least misses on the row, ascending."""
    return places_of_least(helper_misses(helpers, row))


def first_best(helpers, row):
    """The least number of a helper with the least misses on the row."""
    return best_helpers(helpers, row)[0]


def best_table(helpers):
    """The Table of the best misses."""
    check_helpers(helpers)
    return lowest_table([misses_table(helper) for helper in helpers])


def distance(helpers):
    """The least distance behind the best helper that a chooser has."""
    return opposite(wide_fold(best_table(helpers)))


def nearest_chooser(helpers):
    """The chooser with the distance of the helpers."""
    return wide_keeper(best_table(helpers))


def hard_foe(helpers):
    """The foe under which no chooser has a lesser distance."""
    return wide_breaker(best_table(helpers))


def distances(plan, helpers):
    """The Table of the distances of the plan on the rows."""
    return misses_table(plan) - best_table(helpers)


def farthest(plan, helpers):
    """The distance of the plan, and the first row on which it has that distance."""
    found = distances(plan, helpers)
    row = highest_rows(found)[0]
    return (found(row), row)


def is_within(plan, helpers, number):
    """True if the distance of the plan is at most the number."""
    found, _ = farthest(plan, helpers)
    return not is_less(checked(number), found)


def tight_for(plan, helpers):
    """The list of the rows, ascending, on which the plan has the distance of the helpers."""
    return rows_with(distances(plan, helpers), distance(helpers))


def distance_paper(helpers):
    """The distance paper of the distance, the nearest chooser and the hard foe."""
    return (distance(helpers), nearest_chooser(helpers), hard_foe(helpers))


def is_distance_paper(helpers, paper):
    """True if the chooser and the foe of the paper show that its number is the distance of the helpers."""
    table = best_table(helpers)
    number, chooser, foe = paper
    return is_value_paper(table, (opposite(checked(number)), chooser, foe))
