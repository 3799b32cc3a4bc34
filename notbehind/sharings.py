"""Sharings: how lists of numbers are checked to divide one unit."""

from notbehind.errors import BadShare
from notbehind.ratios import ONE, ZERO, checked, checked_all, is_part, sum_of
from notbehind.shapes import check_size


def sized_numbers(numbers, due):
    """The tuple of the fractions equal to the numbers of a list, as many as are due."""
    check_size(numbers, due)
    return tuple(checked_all(numbers))


def is_sharing(shares):
    """True if fractions, as many as the width, are a sharing."""
    return all([above >= 0 for above, below in shares]) and sum_of(shares) == ONE


def checked_sharing(numbers, width, at):
    """The sharing that a list of numbers is; if it is none, BadShare tells the place."""
    shares = sized_numbers(numbers, width)
    if not is_sharing(shares):
        raise BadShare(at)
    return shares


def checked_part(number, at):
    """The fraction equal to a number from 0 to 1; if it is none, BadShare tells the place."""
    part = checked(number)
    if not is_part(part):
        raise BadShare(at)
    return part


def sure_sharing(width, outcome):
    """The sharing with the share 1 for one outcome, an integer."""
    return tuple([ONE if at == outcome else ZERO for at in range(width)])
