"""Paths that change between helpers, and the best that few switches allow."""

from notbehind.filling import wide_breaker, wide_fold, wide_keeper
from notbehind.misses import miss_lists, steps_along
from notbehind.plans import Plan
from notbehind.ratios import ZERO, least_of, opposite, plus, sum_of
from notbehind.rows import beginnings_of
from notbehind.shapes import check_count, check_helpers, check_row, check_size
from notbehind.tables import Table

MOST_SWITCHES = 8


def switches_in(path):
    """The number of switches of a path."""
    return len([number for number, last in zip(path[1:], path) if number != last])


def check_path(helpers, path, due):
    """Raise the errors of a path that is due to have so many helper numbers."""
    check_size(path, due)
    for number in path:
        check_count(number, 0, len(helpers) - 1)


def path_misses(helpers, row, path):
    """The misses of the path on the row."""
    check_helpers(helpers)
    check_row(row, helpers[0].width, helpers[0].rounds)
    check_path(helpers, path, len(row))
    return sum_of([misses[number] for misses, number in zip(round_misses(helpers, row), path)])


def round_misses(helpers, row):
    """The list of the misses in each round on the row, each a list by helper."""
    by_helper = [steps_along(helper, row) for helper in helpers]
    return [[steps[at] for steps in by_helper] for at in range(len(row))]


def path_plan(helpers, path):
    """The Plan that has in each round the sharings of the helper that the path tells."""
    check_helpers(helpers)
    width = helpers[0].width
    rounds = helpers[0].rounds
    check_path(helpers, path, rounds)
    shares = []
    for beginning in beginnings_of(rounds, width=width):
        helper = helpers[path[len(beginning)]]
        shares.append(helper(beginning))
    return Plan(width, rounds, shares)


def no_costs(helpers, switches):
    """The costs of no rounds: a list by allowed switches, up to the told ones, of lists by helper."""
    return [[ZERO] * len(helpers)] * (switches + 1)


def longer_costs(costs, misses):
    """The costs with one round more at an end, in which the helpers have these misses.

    Costs are the least misses of paths with at most so many switches that have the helper in the round at that end.
    """
    found = [[plus(cost, miss) for cost, miss in zip(costs[0], misses)]]
    for fewer, same in zip(costs, costs[1:]):
        switched = least_of(fewer)
        found.append([plus(least_of([cost, switched]), miss) for cost, miss in zip(same, misses)])
    return found


def costs_on(helpers, row, switches):
    """The list of the costs of the rounds from each one on, the first round first, and of no rounds at the end."""
    found = [no_costs(helpers, switches)]
    for misses in reversed(round_misses(helpers, row)):
        found.append(longer_costs(found[-1], misses))
    return list(reversed(found))


def check_switching(helpers, row, switches):
    """Raise the errors of helpers, a row of theirs, and a number of allowed switches."""
    check_helpers(helpers)
    check_row(row, helpers[0].width, helpers[0].rounds)
    check_count(switches, 0, MOST_SWITCHES)


def switch_misses(helpers, row, *, switches=1):
    """The least misses on the row of all paths with at most that many switches."""
    check_switching(helpers, row, switches)
    return least_of(costs_on(helpers, row, switches)[0][switches])


def best_path(helpers, row, *, switches=1):
    """The first path with the least misses on the row, of all with at most that many switches."""
    check_switching(helpers, row, switches)
    path = []
    for costs in costs_on(helpers, row, switches)[:len(row)]:
        left = switches - switches_in(path)
        path.append(next_number(costs, left, path[-1:]))
    return path


def next_number(costs, left, last):
    """The least number with the least costs; last has the number of the round before, if there is one.

    Another number than that takes one of the switches left.
    """
    if last == []:
        found = costs[left]
    elif left == 0:
        return last[0]
    else:
        found = list(costs[left - 1])
        found[last[0]] = costs[left][last[0]]
    return found.index(least_of(found))


def is_best(helpers, row, path, *, switches=1):
    """True if the path has the switch misses on the row and at most that many switches."""
    found = path_misses(helpers, row, path)
    return found == switch_misses(helpers, row, switches=switches) and switches_in(path) <= switches


def switch_table(helpers, *, switches=1):
    """The Table of the switch misses."""
    check_helpers(helpers)
    check_count(switches, 0, MOST_SWITCHES)
    by_helper = [miss_lists(helper) for helper in helpers]
    many = len(helpers[0])
    found = [no_costs(helpers, switches)]
    # The list grows in the order of all beginnings; a row's rounds are gone through from the first one on.
    for at in range(many):
        for outcome in range(helpers[0].width):
            found.append(longer_costs(found[at], [misses[at][outcome] for misses in by_helper]))
    cells = [least_of(costs[switches]) for costs in found[many:]]
    return Table(helpers[0].width, helpers[0].rounds, cells)


def switch_distance(helpers, *, switches=1):
    """The least distance behind the best path that a chooser has."""
    return opposite(wide_fold(switch_table(helpers, switches=switches)))


def switch_chooser(helpers, *, switches=1):
    """The chooser with the switch distance."""
    return wide_keeper(switch_table(helpers, switches=switches))


def switch_foe(helpers, *, switches=1):
    """The foe under which no chooser has a lesser distance behind the best path."""
    return wide_breaker(switch_table(helpers, switches=switches))
