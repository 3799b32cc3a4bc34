"""Rows and beginnings of a shape, their places, and orders that rename outcomes."""

from notbehind.shapes import (
    MOST_ROUNDS, OUTCOMES, check_beginning, check_count, check_order, check_shape, check_width, is_full_row, number_in,
    place_in, row_count, texts_of,
)


def most_rounds(width):
    """The most rounds of the width."""
    check_width(width)
    return MOST_ROUNDS[width - 1]


def letters(width):
    """The outcomes of the width in ascending order, one text."""
    check_width(width)
    return OUTCOMES[:width]


def is_row(text, rounds, *, width=2):
    """True if the text is a row of the shape."""
    check_shape(width, rounds)
    return is_full_row(text, width, rounds)


def rows_of(rounds, *, width=2):
    """The list of all rows, ascending."""
    check_shape(width, rounds)
    return texts_of(width, rounds)


def beginnings_of(rounds, *, width=2):
    """The list of all inner beginnings in order."""
    check_shape(width, rounds)
    found = []
    for length in range(rounds):
        found.extend(texts_of(width, length))
    return found


def all_beginnings(rounds, *, width=2):
    """The list of all beginnings in order, the rows last."""
    inner = beginnings_of(rounds, width=width)
    return inner + texts_of(width, rounds)


def place_of(row, *, width=2):
    """The place of a text of outcomes."""
    check_beginning(row, width, most_rounds(width))
    return place_in(row, width)


def row_at(place, rounds, *, width=2):
    """The row with that place."""
    rows = rows_of(rounds, width=width)
    check_count(place, 0, len(rows) - 1)
    return rows[place]


def number_of(beginning, *, width=2):
    """The index of a text of outcomes in the order of all beginnings."""
    check_beginning(beginning, width, most_rounds(width))
    return number_in(beginning, width)


def span_of(beginning, rounds, *, width=2):
    """The place of the first row that begins with the beginning, and how many rows do."""
    check_shape(width, rounds)
    check_beginning(beginning, width, rounds)
    many = row_count(width, rounds - len(beginning))
    return (place_in(beginning, width) * many, many)


def futures(beginning, rounds, *, width=2):
    """The list of the rows that begin with the beginning, ascending."""
    check_shape(width, rounds)
    check_beginning(beginning, width, rounds)
    return [beginning + rest for rest in texts_of(width, rounds - len(beginning))]


def shared_beginning(first, second):
    """The longest text with which both texts begin."""
    length = 0
    for left, right in zip(first, second):
        if left != right:
            break
        length = length + 1
    return first[:length]


def renamed(order, text):
    """The text with each outcome renamed."""
    check_order(order)
    width = len(order)
    check_beginning(text, width, MOST_ROUNDS[width - 1])
    return "".join([order[OUTCOMES.index(letter)] for letter in text])


def back_order(order):
    """The order that undoes the order."""
    check_order(order)
    return "".join([OUTCOMES[order.index(letter)] for letter in OUTCOMES[:len(order)]])
