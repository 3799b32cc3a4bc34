"""Plans: one sharing for each inner beginning of a shape."""

from notbehind.errors import Mismatch
from notbehind.ratios import ONE, checked_weight, minus, mixed
from notbehind.rows import back_order, beginnings_of, most_rounds, renamed
from notbehind.shapes import (
    MOST_WIDTH, OUTCOMES, check_beginning, check_count, check_inner, check_same_shape, check_same_width, check_size,
    number_in, rounds_of_parts,
)
from notbehind.sharings import checked_part, checked_sharing, is_sharing, sized_numbers, sure_sharing


class Plan:
    """A shape and one sharing for each inner beginning, in their order."""

    def __init__(self, width, rounds, shares):
        # A wrong shape raises its error here, ahead of those of the shares.
        beginnings = beginnings_of(rounds, width=width)
        check_size(shares, len(beginnings))
        self.width = width
        self.rounds = rounds
        self._shares = [checked_sharing(item, width, beginning) for beginning, item in zip(beginnings, shares)]

    @property
    def shares(self):
        """A new list of the sharings."""
        return list(self._shares)

    def __call__(self, beginning):
        """The sharing at an inner beginning."""
        check_inner(beginning, self.width, self.rounds)
        return self._shares[number_in(beginning, self.width)]

    def __len__(self):
        return len(self._shares)

    def __iter__(self):
        return iter(self._shares)

    def __eq__(self, other):
        return (
            isinstance(other, Plan)
            and self.width == other.width
            and self.rounds == other.rounds
            and self._shares == other._shares
        )

    def __add__(self, other):
        check_same_width(self, other)
        width = self.width
        rounds = self.rounds + other.rounds
        # Too many rounds raise BadCount here, before any list grows that long.
        later = beginnings_of(rounds, width=width)[len(self._shares):]
        rests = [beginning[self.rounds:] for beginning in later]
        shares = [other._shares[number_in(rest, width)] for rest in rests]
        return Plan(width, rounds, self._shares + shares)


def even_plan(width, rounds):
    """The Plan whose shares are all 1/width."""
    beginnings = beginnings_of(rounds, width=width)
    return Plan(width, rounds, [[(1, width)] * width] * len(beginnings))


def sure_plan(width, row):
    """The Plan that gives the share 1 to the outcomes of the row, one after the other."""
    check_beginning(row, width, most_rounds(width))
    return round_plan(width, [sure_sharing(width, OUTCOMES.index(outcome)) for outcome in row])


def round_plan(width, shares):
    """The Plan that has at each beginning of length i the sharing at index i."""
    check_count(len(shares), 0, most_rounds(width))
    rounds = len(shares)
    told = [checked_sharing(item, width, OUTCOMES[0] * length) for length, item in enumerate(shares)]
    return Plan(width, rounds, [told[len(beginning)] for beginning in beginnings_of(rounds, width=width)])


def ones_plan(rounds, ones):
    """The Plan of width 2 with these shares of outcome 1, one for each inner beginning."""
    beginnings = beginnings_of(rounds)
    check_size(ones, len(beginnings))
    parts = [checked_part(number, beginning) for beginning, number in zip(beginnings, ones)]
    return Plan(2, rounds, [(minus(ONE, part), part) for part in parts])


def blended(first, second, *, weight):
    """The Plan of (1 - weight) times the shares of first plus weight times those of second."""
    check_same_shape(first, second)
    part = checked_weight(weight)
    shares = []
    for left, right in zip(first.shares, second.shares):
        shares.append([mixed(share, other, part) for share, other in zip(left, right)])
    return Plan(first.width, first.rounds, shares)


def behind_plan(plan, beginning):
    """The Plan for the rounds that are left behind a beginning of any length."""
    check_beginning(beginning, plan.width, plan.rounds)
    left = plan.rounds - len(beginning)
    return Plan(plan.width, left, [plan(beginning + rest) for rest in beginnings_of(left, width=plan.width)])


def root_plan(shares, plans):
    """The Plan of one round more with the sharing first and, behind each outcome, the plan at that index."""
    width = len(shares)
    check_count(width, 1, MOST_WIDTH)
    told = [checked_sharing(shares, width, "")]
    check_size(plans, width)
    rounds = rounds_of_parts(plans, width)
    for beginning in beginnings_of(rounds, width=width)[1:]:
        part = plans[OUTCOMES.index(beginning[0])]
        told.append(part(beginning[1:]))
    return Plan(width, rounds, told)


def renamed_plan(order, plan):
    """The Plan that gives to renamed outcomes at renamed beginnings what the plan gives to the former ones."""
    back = back_order(order)
    if len(order) != plan.width:
        raise Mismatch("an order of another width than the plan")
    shares = []
    for beginning in beginnings_of(plan.rounds, width=plan.width):
        former = plan(renamed(back, beginning))
        shares.append([former[OUTCOMES.index(outcome)] for outcome in back])
    return Plan(plan.width, plan.rounds, shares)


def first_bad_share(width, rounds, shares):
    """The first inner beginning at which the item of shares is not a sharing, or None."""
    beginnings = beginnings_of(rounds, width=width)
    check_size(shares, len(beginnings))
    # All items are read before one is judged: an error of a later item goes before the answer.
    told = [sized_numbers(item, width) for item in shares]
    for beginning, item in zip(beginnings, told):
        if not is_sharing(item):
            return beginning
    return None
