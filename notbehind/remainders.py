"""Remainders: levels less the losses of a pick, as the pick goes from 0 to 1.

Each outcome has a pair of fractions, its remainders at the pick 0 and at the pick 1; at the picks between them its
remainder moves evenly. All that stakes and levels tell follows from the list of these pairs.
"""

from notbehind.ratios import ONE, ZERO, greatest_of, is_less, is_part, least_of, minus, mixed, over


def remainder_pairs(levels, losses):
    """The pairs of all outcomes; losses has the losses of choice 0 and those of choice 1."""
    return [(minus(level, first), minus(level, last)) for level, first, last in zip(levels, losses[0], losses[1])]


def lowest_at(pairs, pick):
    """The least remainder at a pick."""
    return least_of([mixed(first, last, pick) for first, last in pairs])


def rise(pair):
    """How much a remainder rises from the pick 0 to the pick 1; it is below 0 if it falls."""
    first, last = pair
    return minus(last, first)


def meetings(pairs):
    """The list of the picks from 0 to 1 at which two remainders that move unlike each other are equal."""
    found = []
    for at, pair in enumerate(pairs):
        for other in pairs[:at]:
            apart = minus(rise(pair), rise(other))
            if apart != ZERO:
                found.append(over(minus(other[0], pair[0]), apart))
    return [pick for pick in found if is_part(pick)]


def best_of(pairs):
    """The least pick at which the least remainder is greatest, and that remainder."""
    best = ZERO
    reached = lowest_at(pairs, best)
    # Between these picks the least remainder moves evenly, so it is greatest at one of them.
    for pick in meetings(pairs) + [ONE]:
        lowest = lowest_at(pairs, pick)
        if is_less(reached, lowest) or (reached == lowest and is_less(pick, best)):
            best = pick
            reached = lowest
    return (best, reached)


def pick_of(pairs):
    """The least pick at which the least remainder is greatest."""
    return best_of(pairs)[0]


def step_in(pairs):
    """The greatest value, over all picks, of the least remainder."""
    return best_of(pairs)[1]


def chances_in(pairs):
    """The tuple of the chances under which the mean of the remainders is the step or less for every pick."""
    step = step_in(pairs)
    low = [outcome for outcome, pair in enumerate(pairs) if not is_less(step, greatest_of(pair))]
    if low != []:
        return placed(len(pairs), [(low[0], ONE)])
    first, last = first_crossing(pairs, step)
    chance = crossing_chance(pairs[first], pairs[last])
    return placed(len(pairs), [(first, chance), (last, minus(ONE, chance))])


def first_crossing(pairs, step):
    """The first two outcomes whose remainders cross at the step."""
    many = len(pairs)
    found = [
        (first, last) for first in range(many) for last in range(first + 1, many)
        if is_crossing(pairs[first], pairs[last], step)
    ]
    return found[0]


def is_crossing(pair, other, step):
    """True if one remainder rises and the other falls, and their mean that is the same for all picks is the step."""
    up, _ = rise(pair)
    down, _ = rise(other)
    if up * down >= 0:
        return False
    return mixed(other[0], pair[0], crossing_chance(pair, other)) == step


def crossing_chance(pair, other):
    """The chance of the first one for which the mean of a rising and a falling remainder is the same for all picks."""
    return over(rise(other), minus(rise(other), rise(pair)))


def placed(width, told):
    """The tuple with the numbers that are told by outcome, and 0 for the others."""
    found = [ZERO] * width
    for outcome, number in told:
        found[outcome] = number
    return tuple(found)
