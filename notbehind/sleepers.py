"""Sleepers: helpers that are awake at some inner beginnings only."""

from notbehind.helpers import distance
from notbehind.misses import steps_along
from notbehind.plans import Plan
from notbehind.ratios import ZERO, greatest_of, minus, sum_of
from notbehind.rows import beginnings_of
from notbehind.shapes import check_helpers, check_inner, check_row, check_same_shape
from notbehind.tables import highest_rows, summed_table


class Sleeper:
    """A plan and the inner beginnings at which it is awake."""

    def __init__(self, plan, awake):
        for beginning in awake:
            check_inner(beginning, plan.width, plan.rounds)
        self.plan = plan
        self.width = plan.width
        self.rounds = plan.rounds
        self._awake = [text for text in beginnings_of(plan.rounds, width=plan.width) if text in awake]

    @property
    def awake(self):
        """A new list of the inner beginnings at which it is awake, in order."""
        return list(self._awake)

    def __contains__(self, text):
        return text in self._awake


def awake_rounds(sleeper, row):
    """The list of the rounds, numbered from 0, ahead of which the sleeper is awake on the row."""
    check_row(row, sleeper.width, sleeper.rounds)
    return [at for at in range(sleeper.rounds) if row[:at] in sleeper]


def counted_misses(sleeper, row):
    """The misses of the sleeper in the rounds ahead of which it is awake."""
    return misses_beside(sleeper.plan, sleeper, row)


def misses_beside(plan, sleeper, row):
    """The misses of a plan in the rounds ahead of which the sleeper is awake."""
    rounds = awake_rounds(sleeper, row)
    steps = steps_along(plan, row)
    return sum_of([steps[at] for at in rounds])


def behind_sleeper(chooser, sleeper, row):
    """The distance of the chooser behind the sleeper on the row."""
    check_same_shape(chooser, sleeper)
    return minus(misses_beside(chooser, sleeper, row), counted_misses(sleeper, row))


def stood_in(sleeper, plan):
    """The Plan that has the sleeper's sharing where it is awake and the plan's sharing elsewhere."""
    return relay([sleeper], plan)


def speaker(sleepers, beginning):
    """The index of the first sleeper awake at an inner beginning, or None."""
    check_helpers(sleepers)
    check_inner(beginning, sleepers[0].width, sleepers[0].rounds)
    return first_awake(sleepers, beginning)


def first_awake(sleepers, beginning):
    """The index of the first sleeper awake at a right inner beginning, or None."""
    for at, sleeper in enumerate(sleepers):
        if beginning in sleeper:
            return at
    return None


def relay(sleepers, rest):
    """The Plan that has the sharing of the first sleeper awake, and that of the rest where all are asleep."""
    check_helpers(sleepers)
    check_same_shape(sleepers[0], rest)
    shares = []
    for beginning in beginnings_of(rest.rounds, width=rest.width):
        at = first_awake(sleepers, beginning)
        plan = rest if at is None else sleepers[at].plan
        shares.append(plan(beginning))
    return Plan(rest.width, rest.rounds, shares)


def are_apart(sleepers):
    """True if at no inner beginning two of the sleepers are awake."""
    check_helpers(sleepers)
    told = []
    for sleeper in sleepers:
        told.extend(sleeper.awake)
    return len(told) == len(set(told))


def distances_behind(chooser, sleeper):
    """The Table of the distances of the chooser behind the sleeper on the rows."""
    plan = sleeper.plan
    steps = []
    for beginning, own, other in zip(beginnings_of(plan.rounds, width=plan.width), chooser.shares, plan.shares):
        if beginning in sleeper:
            # The chooser misses more by as much as its share of the outcome that comes is less.
            steps.append([minus(share, less) for less, share in zip(own, other)])
        else:
            steps.append([ZERO] * plan.width)
    return summed_table(plan.width, plan.rounds, steps)


def farthest_behind(chooser, sleepers):
    """The greatest distance behind a sleeper, the first sleeper with it, and the first row with it for that one."""
    check_helpers(sleepers)
    check_same_shape(chooser, sleepers[0])
    tables = [distances_behind(chooser, sleeper) for sleeper in sleepers]
    greatest = [greatest_of(table.cells) for table in tables]
    found = greatest_of(greatest)
    at = greatest.index(found)
    return (found, at, highest_rows(tables[at])[0])


def stood_distance(sleepers, plan):
    """The distance of the helpers that arise where the plan stands in for each sleeper."""
    check_helpers(sleepers)
    return distance([stood_in(sleeper, plan) for sleeper in sleepers])
