"""Stakes: two choices with any losses, and picks between them."""

from notbehind.misses import all_chances, mean_under
from notbehind.plans import Plan, ones_plan
from notbehind.ratios import checked, checked_weight, dot_of, is_less, least_of, minus, mixed, opposite, sum_of
from notbehind.remainders import chances_in, pick_of, remainder_pairs, step_in
from notbehind.rows import beginnings_of
from notbehind.shapes import (
    OUTCOMES, check_beginning, check_helpers, check_inner, check_outcome, check_same_width, check_size, check_two,
    check_width, is_same_shape, nexts_of, number_in,
)
from notbehind.sharings import checked_part, sized_numbers
from notbehind.tables import lowest_table, summed_table, worked_back


class Stakes:
    """A width and the losses of two choices, one for each outcome."""

    def __init__(self, width, losses):
        check_width(width)
        check_size(losses, 2)
        self.width = width
        self._losses = [sized_numbers(item, width) for item in losses]

    @property
    def losses(self):
        """A new list of the losses of choice 0 and of choice 1."""
        return list(self._losses)

    def __call__(self, pick, outcome):
        """The loss of the pick for the outcome."""
        weight = checked_weight(pick)
        check_outcome(outcome, self.width)
        first, last = self._losses
        at = OUTCOMES.index(outcome)
        return mixed(first[at], last[at], weight)

    def __eq__(self, other):
        return isinstance(other, Stakes) and self.width == other.width and self._losses == other._losses


class Picks:
    """A shape and one pick for each inner beginning, in their order."""

    def __init__(self, width, rounds, ones):
        beginnings = beginnings_of(rounds, width=width)
        check_size(ones, len(beginnings))
        self.width = width
        self.rounds = rounds
        self._ones = [checked_part(number, beginning) for beginning, number in zip(beginnings, ones)]

    @property
    def ones(self):
        """A new list of the picks."""
        return list(self._ones)

    def __call__(self, beginning):
        """The pick at an inner beginning."""
        check_inner(beginning, self.width, self.rounds)
        return self._ones[number_in(beginning, self.width)]

    def __iter__(self):
        return iter(self._ones)

    def __eq__(self, other):
        return (
            isinstance(other, Picks)
            and self.width == other.width
            and self.rounds == other.rounds
            and self._ones == other._ones
        )


def miss_stakes():
    """The Stakes of width 2 under which the losses of picks are misses."""
    return Stakes(2, [[0, 1], [1, 0]])


def picks_of(plan):
    """The Picks of a Plan of width 2: its shares of outcome 1."""
    check_two(plan)
    return Picks(2, plan.rounds, [share for _, share in plan.shares])


def plan_of(picks):
    """The Plan of Picks of width 2, whose shares of outcome 1 they are."""
    check_two(picks)
    return ones_plan(picks.rounds, picks.ones)


def stakes_pairs(stakes, levels):
    """The remainders of the outcomes where levels is a list of numbers that is not checked yet."""
    return remainder_pairs(sized_numbers(levels, stakes.width), stakes.losses)


def stakes_step(stakes, levels):
    """The step of the levels: the greatest value, over all picks, of the least level less loss."""
    return step_in(stakes_pairs(stakes, levels))


def stakes_pick(stakes, levels):
    """The least pick that reaches the step."""
    return pick_of(stakes_pairs(stakes, levels))


def stakes_chances(stakes, levels):
    """The chances, a tuple, under which no pick does better than the step."""
    return chances_in(stakes_pairs(stakes, levels))


def pick_losses(stakes, picks, beginning):
    """The losses of the Picks on a beginning of any length."""
    check_same_width(stakes, picks)
    check_beginning(beginning, picks.width, picks.rounds)
    return sum_of([stakes(picks(beginning[:at]), outcome) for at, outcome in enumerate(beginning)])


def losses_table(stakes, picks):
    """The Table of the losses of the Picks on the rows."""
    check_same_width(stakes, picks)
    first, last = stakes.losses
    steps = []
    for pick in picks:
        steps.append([mixed(loss, other, pick) for loss, other in zip(first, last)])
    return summed_table(picks.width, picks.rounds, steps)


def stakes_folds(stakes, table):
    """The list of the folds behind all beginnings, in the order of all beginnings."""
    check_same_width(stakes, table)
    losses = stakes.losses
    return worked_back(table, lambda levels: step_in(remainder_pairs(levels, losses)))


def pairs_by_beginning(stakes, table):
    """The list of the remainders of the outcomes at each inner beginning, in order."""
    parts = nexts_of(stakes_folds(stakes, table), table.width)
    return [remainder_pairs(levels, stakes.losses) for levels in parts]


def stakes_fold(stakes, table):
    """The fold of the table with the stakes."""
    return stakes_folds(stakes, table)[0]


def stakes_keeper(stakes, table):
    """The Picks whose losses stay as far below all cells as the fold tells."""
    return Picks(table.width, table.rounds, [pick_of(pairs) for pairs in pairs_by_beginning(stakes, table)])


def stakes_breaker(stakes, table):
    """The foe, a Plan, under which no Picks stay further below the cells."""
    return Plan(table.width, table.rounds, [chances_in(pairs) for pairs in pairs_by_beginning(stakes, table)])


def least_losses(stakes, foe):
    """The least losses of the foe: no Picks have lesser mean losses under it."""
    check_same_width(stakes, foe)
    first, last = stakes.losses
    steps = [least_of([dot_of(sharing, first), dot_of(sharing, last)]) for sharing in foe]
    return dot_of(all_chances(foe)[:len(foe)], steps)


def stakes_paper(stakes, table):
    """The stakes paper of the fold, the keeper and the breaker."""
    return (stakes_fold(stakes, table), stakes_keeper(stakes, table), stakes_breaker(stakes, table))


def is_stakes_paper(stakes, table, paper):
    """True if the Picks and the foe of the paper show that its number is the fold of the table."""
    check_same_width(stakes, table)
    value, picks, foe = paper
    number = checked(value)
    if not is_same_shape(picks, table) or not is_same_shape(foe, table):
        return False
    slacks = table - losses_table(stakes, picks)
    worth = minus(mean_under(foe, table), least_losses(stakes, foe))
    return not is_less(least_of(slacks.cells), number) and not is_less(number, worth)


def stakes_best(stakes, helpers):
    """The Table of the least losses of the helpers, a list of Picks."""
    check_helpers(helpers)
    return lowest_table([losses_table(stakes, helper) for helper in helpers])


def stakes_distance(stakes, helpers):
    """The least distance behind the best helper that Picks have; it may be below 0."""
    return opposite(stakes_fold(stakes, stakes_best(stakes, helpers)))
