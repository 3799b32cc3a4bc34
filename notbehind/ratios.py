"""Fractions: how a number is checked, and arithmetic on fractions that are checked.

A fraction is a tuple (above, below) in lowest terms with below at least 1.
"""

from math import gcd

from notbehind.errors import BadNumber, BadWeight

ZERO = (0, 1)
ONE = (1, 1)


def is_whole(value):
    """True for an integer; a bool is none here, though Python counts it as one."""
    return isinstance(value, int) and not isinstance(value, bool)


def reduced(above, below):
    """The fraction above divided by below; below is at least 1."""
    shared = gcd(above, below)
    return (above // shared, below // shared)


def checked(value):
    """The fraction equal to a number; any other value raises BadNumber."""
    if is_whole(value):
        return (value, 1)
    if not isinstance(value, tuple) or len(value) != 2:
        raise BadNumber("neither an integer nor a tuple of two")
    above, below = value
    if not is_whole(above) or not is_whole(below) or below < 1:
        raise BadNumber("a tuple that is no number")
    return reduced(above, below)


def checked_all(values):
    """The list of the fractions equal to the numbers of a list."""
    return [checked(value) for value in values]


def is_part(value):
    """True if a fraction is from 0 to 1."""
    above, below = value
    return 0 <= above <= below


def checked_weight(value):
    """The fraction equal to a number from 0 to 1."""
    weight = checked(value)
    if not is_part(weight):
        raise BadWeight("a weight below 0 or above 1")
    return weight


def plus(left, right):
    """The sum of two fractions."""
    above, below = left
    more, under = right
    shared = gcd(below, under)
    top = above * (under // shared) + more * (below // shared)
    # Only a divisor of both lower parts can divide the sum, so no greater one is looked for.
    spare = gcd(top, shared)
    return (top // spare, below // shared * (under // spare))


def opposite(value):
    """Zero less a fraction."""
    above, below = value
    return (-above, below)


def minus(left, right):
    """The difference of two fractions."""
    return plus(left, opposite(right))


def times(left, right):
    """The product of two fractions."""
    above, below = left
    more, under = right
    # Each fraction is in lowest terms, so that only an upper and the other lower part can share a divisor.
    shared = gcd(above, under)
    spare = gcd(more, below)
    return ((above // shared) * (more // spare), (below // spare) * (under // shared))


def over(left, right):
    """The left fraction divided by the right one, which is not zero."""
    more, under = right
    if more < 0:
        return times(left, (-under, -more))
    return times(left, (under, more))


def is_less(left, right):
    """True if the left fraction is less than the right one."""
    above, below = left
    more, under = right
    return above * under < more * below


def sum_of(values):
    """The sum of fractions."""
    found = ZERO
    for value in values:
        found = plus(found, value)
    return found


def mean_of(values):
    """The mean of one or more fractions."""
    return times(sum_of(values), (1, len(values)))


def least_of(values):
    """The least of one or more fractions."""
    found = values[0]
    for value in values:
        if is_less(value, found):
            found = value
    return found


def greatest_of(values):
    """The greatest of one or more fractions."""
    found = values[0]
    for value in values:
        if is_less(found, value):
            found = value
    return found


def places_of_least(values):
    """The list of the indexes of the least of one or more fractions, ascending."""
    least = least_of(values)
    return [place for place, value in enumerate(values) if value == least]


def ascending(values):
    """The list of fractions, ascending."""
    if len(values) < 2:
        return list(values)
    half = len(values) // 2
    return merged(ascending(values[:half]), ascending(values[half:]))


def merged(left, right):
    """The list of the fractions of two ascending lists, ascending."""
    found = []
    at = 0
    for value in left:
        while at < len(right) and is_less(right[at], value):
            found.append(right[at])
            at = at + 1
        found.append(value)
    return found + right[at:]


def dot_of(weights, values):
    """The sum of the products of fractions at the same index."""
    return sum_of([times(weight, value) for weight, value in zip(weights, values)])


def mixed(first, second, weight):
    """(1 - weight) times first plus weight times second."""
    return plus(times(minus(ONE, weight), first), times(weight, second))
