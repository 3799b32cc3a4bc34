"""Ladders: bounds for each beginning, so that a game may end after any round."""

from notbehind.errors import Mismatch
from notbehind.levels import chances_of, shares_of, step_of
from notbehind.misses import all_chances, least_steps, miss_lists
from notbehind.plans import Plan
from notbehind.ratios import checked, is_less, least_of, minus, opposite, sum_of, times
from notbehind.rows import all_beginnings, beginnings_of
from notbehind.shapes import (
    check_helpers, check_inner, check_same_shape, check_some, inner_count, is_inner, is_same_shape, next_of, nexts_of,
    number_in,
)
from notbehind.tables import Table, flat, sums_along


def check_ladder(ladder):
    """Raise the errors of a ladder."""
    check_some(ladder)
    for rounds, table in enumerate(ladder):
        if table.width != ladder[0].width or table.rounds != rounds:
            raise Mismatch("a step of a ladder of another shape")


def end_ladder(table, number):
    """The ladder whose last Table is the table and whose other Tables have the number in all cells."""
    cell = checked(number)
    return [flat(table.width, rounds, cell) for rounds in range(table.rounds)] + [table]


def best_ladder(helpers):
    """The ladder of the least of the helpers' misses on each beginning."""
    check_helpers(helpers)
    width = helpers[0].width
    by_helper = [sums_along(miss_lists(helper)) for helper in helpers]
    best = [least_of(misses) for misses in zip(*by_helper)]
    ends = [inner_count(width, rounds) for rounds in range(helpers[0].rounds + 2)]
    return [Table(width, rounds, best[first:last]) for rounds, (first, last) in enumerate(zip(ends, ends[1:]))]


def bounds_of(ladder):
    """The list of the bounds for all beginnings, in order, of a ladder that is checked."""
    bounds = []
    for table in ladder:
        bounds.extend(table.cells)
    return bounds


def anytime_folds(ladder):
    """The list of the anytime folds behind all beginnings, in order."""
    check_ladder(ladder)
    last = ladder[-1]
    found = bounds_of(ladder)
    for at in reversed(range(inner_count(last.width, last.rounds))):
        found[at] = least_of([found[at], step_of(next_of(found, at, last.width))])
    return found


def anytime_fold(ladder):
    """The anytime fold of the empty beginning."""
    return anytime_folds(ladder)[0]


def anytime_levels(ladder):
    """The list of the anytime folds behind the next beginnings, for each inner beginning in order."""
    return nexts_of(anytime_folds(ladder), ladder[0].width)


def anytime_chooser(ladder):
    """The chooser with the greatest anytime slack, a Plan."""
    shares = [shares_of(levels) for levels in anytime_levels(ladder)]
    return Plan(ladder[-1].width, ladder[-1].rounds, shares)


def anytime_foe(ladder):
    """The foe under which no chooser has a greater anytime slack, a Plan, and the list of the stops."""
    by_beginning = anytime_levels(ladder)
    last = ladder[-1]
    foe = Plan(last.width, last.rounds, [chances_of(levels) for levels in by_beginning])
    stops = []
    for beginning, bound, levels in zip(beginnings_of(last.rounds, width=last.width), bounds_of(ladder), by_beginning):
        if not is_less(step_of(levels), bound):
            stops.append(beginning)
    return (foe, stops)


def anytime_slack(chooser, ladder):
    """The least of the bounds less the misses of the chooser, over all beginnings."""
    check_ladder(ladder)
    check_same_shape(chooser, ladder[-1])
    misses = sums_along(miss_lists(chooser))
    return least_of([minus(bound, so_far) for bound, so_far in zip(bounds_of(ladder), misses)])


def check_stops(stops, width, rounds):
    """Raise BadRow for the first stop that is no inner beginning."""
    for stop in stops:
        check_inner(stop, width, rounds)


def is_over(beginning, stops):
    """True if a game with the stops has ended on the beginning or on a shorter one of it."""
    return any([beginning[:length] in stops for length in range(len(beginning) + 1)])


def endings(stops, rounds, *, width=2):
    """The list of the beginnings at which a game with the stops ends, in the order of all beginnings."""
    beginnings = all_beginnings(rounds, width=width)
    check_stops(stops, width, rounds)
    found = []
    for beginning in beginnings:
        reached = beginning == "" or not is_over(beginning[:-1], stops)
        if reached and (beginning in stops or len(beginning) == rounds):
            found.append(beginning)
    return found


def stopped_misses(foe, stops):
    """The least misses of the foe in a game with the stops."""
    check_stops(stops, foe.width, foe.rounds)
    beginnings = beginnings_of(foe.rounds, width=foe.width)
    parts = []
    for beginning, chance, step in zip(beginnings, all_chances(foe), least_steps(foe)):
        if not is_over(beginning, stops):
            parts.append(times(chance, step))
    return sum_of(parts)


def stopped_mean(foe, stops, ladder):
    """The mean of the bounds at the endings under the foe."""
    check_stops(stops, foe.width, foe.rounds)
    check_ladder(ladder)
    check_same_shape(foe, ladder[-1])
    bounds = bounds_of(ladder)
    chances = all_chances(foe)
    places = [number_in(ending, foe.width) for ending in endings(stops, foe.rounds, width=foe.width)]
    return sum_of([times(chances[place], bounds[place]) for place in places])


def anytime_paper(ladder):
    """The anytime paper of the fold, the chooser, the foe and its stops."""
    foe, stops = anytime_foe(ladder)
    return (anytime_fold(ladder), anytime_chooser(ladder), foe, stops)


def is_anytime_paper(ladder, paper):
    """True if the chooser, the foe and the stops of the paper show that its number is the anytime fold."""
    check_ladder(ladder)
    last = ladder[-1]
    value, chooser, foe, stops = paper
    number = checked(value)
    if not is_same_shape(chooser, last) or not is_same_shape(foe, last):
        return False
    if not all([is_inner(stop, last.width, last.rounds) for stop in stops]):
        return False
    worth = minus(stopped_mean(foe, stops, ladder), stopped_misses(foe, stops))
    return not is_less(anytime_slack(chooser, ladder), number) and not is_less(number, worth)


def anytime_distance(helpers):
    """The least distance behind the best helper, after any round, that a chooser has."""
    return opposite(anytime_fold(best_ladder(helpers)))
