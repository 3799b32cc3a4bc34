"""Exact arithmetic on numbers: integers, and tuples that stand for fractions."""

from notbehind.errors import DivisionByZero, Mismatch
from notbehind.ratios import (
    ZERO, checked, checked_all, checked_weight, dot_of, greatest_of, is_less, least_of, mean_of, minus, mixed,
    opposite, over, plus, sum_of, times,
)
from notbehind.shapes import check_size, check_some


def fraction(value):
    """The fraction equal to the number."""
    return checked(value)


def add(left, right):
    """The sum of two numbers."""
    return plus(checked(left), checked(right))


def sub(left, right):
    """The difference of two numbers."""
    return minus(checked(left), checked(right))


def mul(left, right):
    """The product of two numbers."""
    return times(checked(left), checked(right))


def div(left, right):
    """The left number divided by the right one."""
    first = checked(left)
    second = checked(right)
    if second == ZERO:
        raise DivisionByZero("a division by zero")
    return over(first, second)


def negate(value):
    """Zero minus the number."""
    return opposite(checked(value))


def compare(left, right):
    """-1 if the left number is less than the right one, 0 if they are equal, 1 if it is greater."""
    first = checked(left)
    second = checked(right)
    if first == second:
        return 0
    if is_less(first, second):
        return -1
    return 1


def total(values):
    """The sum of the numbers of a list."""
    return sum_of(checked_all(values))


def some_values(values):
    """The fractions of a list of numbers that must not be empty."""
    check_some(values)
    return checked_all(values)


def mean(values):
    """The mean of the numbers of a list."""
    return mean_of(some_values(values))


def least(values):
    """The least number of a list."""
    return least_of(some_values(values))


def greatest(values):
    """The greatest number of a list."""
    return greatest_of(some_values(values))


def clamp(value, low, high):
    """The number next to value that is not below low and not above high."""
    middle = checked(value)
    bottom = checked(low)
    top = checked(high)
    if is_less(top, bottom):
        raise Mismatch("low is greater than high")
    return least_of([greatest_of([middle, bottom]), top])


def blend(first, second, *, weight):
    """(1 - weight) times first plus weight times second."""
    left = checked(first)
    right = checked(second)
    return mixed(left, right, checked_weight(weight))


def dot(weights, values):
    """The sum of the products of items at the same index."""
    factors = checked_all(weights)
    # The weights are checked before the number of values, which belongs to the next argument.
    check_size(values, len(factors))
    return dot_of(factors, checked_all(values))


def whole_below(value):
    """The greatest integer that is not above the number."""
    above, below = checked(value)
    return above // below


def whole_above(value):
    """The least integer that is not below the number."""
    above, below = checked(value)
    return -(-above // below)
