"""Five other choosers built from helpers, and the spreads of tables."""

from notbehind.helpers import distances, farthest
from notbehind.misses import all_chances, miss_lists
from notbehind.plans import Plan
from notbehind.ratios import (
    ONE, ZERO, ascending, checked, checked_weight, dot_of, greatest_of, is_less, mean_of, minus, over, places_of_least,
    plus, sum_of, times,
)
from notbehind.shapes import check_beginning, check_helpers, check_same_shape, check_some, number_in
from notbehind.sharings import sure_sharing
from notbehind.tables import products_along, rows_with, sums_along


def sharings_of(helpers):
    """For each inner beginning, in order, the tuple of the sharings of the helpers."""
    check_helpers(helpers)
    by_helper = [helper.shares for helper in helpers]
    return list(zip(*by_helper))


def leading_of(helpers):
    """For each inner beginning, in order, the list of the sharings of the leaders."""
    sharings = sharings_of(helpers)
    by_helper = [sums_along(miss_lists(helper)) for helper in helpers]
    leaders = [places_of_least(misses) for misses in zip(*by_helper)]
    # The rows stand behind the inner beginnings and have no sharings.
    return [[told[number] for number in numbers] for told, numbers in zip(sharings, leaders)]


def plan_like(helpers, shares):
    """The Plan of the helpers' shape with these sharings."""
    return Plan(helpers[0].width, helpers[0].rounds, shares)


def mean_sharing(sharings):
    """The mean of one or more sharings, a list."""
    return [mean_of(shares) for shares in zip(*sharings)]


def first_rule(helpers):
    """The chooser first: the sharing of the leader with the least number."""
    return plan_like(helpers, [told[0] for told in leading_of(helpers)])


def leaders_rule(helpers):
    """The chooser leaders: the mean of the sharings of all leaders."""
    return plan_like(helpers, [mean_sharing(told) for told in leading_of(helpers)])


def same_rule(helpers):
    """The chooser same: the mean of the sharings of all helpers."""
    return plan_like(helpers, [mean_sharing(told) for told in sharings_of(helpers)])


def most_rule(helpers):
    """The chooser most: the share 1 for the outcome with the greatest sum of shares."""
    shares = []
    for told in sharings_of(helpers):
        sums = [sum_of(parts) for parts in zip(*told)]
        shares.append(sure_sharing(helpers[0].width, sums.index(greatest_of(sums))))
    return plan_like(helpers, shares)


def weights_along(helper, rate):
    """The list of the weights of a helper at all beginnings, in order; the rate is checked."""
    loss = minus(ONE, rate)
    factors = [[minus(ONE, times(miss, loss)) for miss in misses] for misses in miss_lists(helper)]
    return products_along(factors)


def weighed_sharing(sharings, weights):
    """The mean of the sharings, each with its weight; without weights if they are all 0."""
    whole = sum_of(weights)
    if whole == ZERO:
        return mean_sharing(sharings)
    return [over(dot_of(weights, shares), whole) for shares in zip(*sharings)]


def weights_rule(helpers, *, rate=(1, 2)):
    """The chooser weights: the mean of the helpers' sharings, weighed by how little each one missed."""
    sharings = sharings_of(helpers)
    part = checked_weight(rate)
    by_helper = [weights_along(helper, part) for helper in helpers]
    by_beginning = list(zip(*by_helper))
    return plan_like(helpers, [weighed_sharing(told, weights) for told, weights in zip(sharings, by_beginning)])


def helper_weights(helpers, beginning, *, rate=(1, 2)):
    """The list of the weights of the helpers at a beginning of any length."""
    check_helpers(helpers)
    width = helpers[0].width
    check_beginning(beginning, width, helpers[0].rounds)
    part = checked_weight(rate)
    return [weights_along(helper, part)[number_in(beginning, width)] for helper in helpers]


RULES = {
    "first": first_rule,
    "leaders": leaders_rule,
    "same": same_rule,
    "weights": weights_rule,
    "most": most_rule,
}


def rivals(helpers):
    """The list of the names of the five choosers, their distances, and the first rows on which they have them."""
    found = []
    for name in RULES:
        rule = RULES[name]
        distance, row = farthest(rule(helpers), helpers)
        found.append((name, distance, row))
    return found


def closest_rival(helpers):
    """The first of the rivals with the least distance."""
    found = rivals(helpers)
    return found[places_of_least([rival[1] for rival in found])[0]]


def distance_table(plan, helpers):
    """The Table of the distances of the plan on the rows."""
    return distances(plan, helpers)


def spread(table):
    """The list of the values of the cells, ascending, each with the number of rows that have it."""
    counts = {}
    for cell in table:
        counts[cell] = counts.get(cell, 0) + 1
    return [(cell, counts[cell]) for cell in ascending(list(counts))]


def weighed_spread(foe, table):
    """The list of the values of the cells, ascending, each with the chance of the rows that have it, if above 0."""
    check_same_shape(foe, table)
    sums = {}
    for cell, chance in zip(table.cells, all_chances(foe)[len(foe):]):
        sums[cell] = plus(sums.get(cell, ZERO), chance)
    return [(cell, sums[cell]) for cell in ascending(list(sums)) if sums[cell] != ZERO]


def spread_mean(pairs):
    """The mean of the values, each as often as its integer tells."""
    check_some(pairs)
    values = [checked(value) for value, _ in pairs]
    counts = [(many, 1) for _, many in pairs]
    return over(dot_of(counts, values), sum_of(counts))


def rows_at(table, number):
    """The list of the rows whose cell is the number, ascending."""
    return rows_with(table, checked(number))


def count_above(table, number):
    """The number of rows whose cell is greater than the number, an integer."""
    limit = checked(number)
    return len([cell for cell in table if is_less(limit, cell)])
