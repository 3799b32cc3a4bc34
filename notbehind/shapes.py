"""Checks of counts, sizes and shapes, and of the texts of outcomes that fit a shape."""

from notbehind.errors import BadCount, BadRow, BadSize, Mismatch, NoHelper

OUTCOMES = "01234"
MOST_WIDTH = 5
MOST_ROUNDS = (8, 8, 5, 4, 3)
MOST_HELPERS = 5


def check_count(found, low, high):
    """Raise BadCount unless it is an integer from low to high; a bool is none."""
    if isinstance(found, bool) or found < low or found > high:
        raise BadCount(found, low, high)


def check_size(items, due):
    """Raise BadSize unless a list has as many items as are due."""
    if len(items) != due:
        raise BadSize(len(items), due)


def check_some(items):
    """Raise BadSize for an empty list where one item at least is due."""
    if len(items) == 0:
        raise BadSize(0, 1)


def check_width(width):
    """Raise BadCount unless there are games of the width."""
    check_count(width, 1, MOST_WIDTH)


def check_rounds(width, rounds):
    """Raise BadCount unless a game of the width, which is right, may have these rounds."""
    check_count(rounds, 0, MOST_ROUNDS[width - 1])


def check_shape(width, rounds):
    """Raise BadCount for a wrong width, then for wrong rounds."""
    check_width(width)
    check_rounds(width, rounds)


def is_same_shape(first, second):
    """True if two objects have the same shape."""
    return first.width == second.width and first.rounds == second.rounds


def check_same_shape(first, second):
    """Raise Mismatch unless two objects have the same shape."""
    if not is_same_shape(first, second):
        raise Mismatch("two unlike shapes")


def check_same_width(first, second):
    """Raise Mismatch unless two objects have the same width."""
    if first.width != second.width:
        raise Mismatch("two unlike widths")


def check_helpers(helpers):
    """Raise the errors of a list of helpers, or of the like with one shape for all."""
    if len(helpers) == 0:
        raise NoHelper("a list without a helper")
    check_count(len(helpers), 1, MOST_HELPERS)
    for helper in helpers:
        check_same_shape(helpers[0], helper)


def check_two(thing):
    """Raise Mismatch unless an object has width 2."""
    if thing.width != 2:
        raise Mismatch("another width than 2")


def rounds_of_parts(parts, width):
    """The rounds, perhaps too many, of what has one round more than its parts, one for each first outcome."""
    for part in parts:
        if part.width != width or part.rounds != parts[0].rounds:
            raise Mismatch("a part of another shape")
    return parts[0].rounds + 1


def row_count(width, rounds):
    """How many texts of so many outcomes there are."""
    many = 1
    for _ in range(rounds):
        many = many * width
    return many


def inner_count(width, rounds):
    """How many texts of fewer outcomes than the rounds there are."""
    many = 0
    for _ in range(rounds):
        many = many * width + 1
    return many


def is_made_of(text, letters):
    """True if the text has only the letters as characters."""
    return all([letter in letters for letter in text])


def is_outcomes(text, width):
    """True if the text has only outcomes of the width as characters."""
    return is_made_of(text, OUTCOMES[:width])


def is_beginning(text, width, rounds):
    """True if the text is a beginning of any length."""
    return len(text) <= rounds and is_outcomes(text, width)


def check_beginning(text, width, rounds):
    """Raise BadRow unless the text is a beginning of any length."""
    if not is_beginning(text, width, rounds):
        raise BadRow(text)


def is_full_row(text, width, rounds):
    """True if the text is a row."""
    return len(text) == rounds and is_outcomes(text, width)


def check_row(text, width, rounds):
    """Raise BadRow unless the text is a row."""
    if not is_full_row(text, width, rounds):
        raise BadRow(text)


def is_inner(text, width, rounds):
    """True if the text is an inner beginning."""
    return len(text) < rounds and is_outcomes(text, width)


def check_inner(text, width, rounds):
    """Raise BadRow unless the text is an inner beginning."""
    if not is_inner(text, width, rounds):
        raise BadRow(text)


def is_outcome(text, width):
    """True if the text is one outcome."""
    return is_full_row(text, width, 1)


def check_outcome(text, width):
    """Raise BadRow unless the text is one outcome."""
    check_row(text, width, 1)


def check_order(text):
    """Raise BadRow unless the text has each outcome of a width exactly once."""
    if text == "" or sorted(text) != list(OUTCOMES[:len(text)]):
        raise BadRow(text)


def texts_over(letters, length):
    """The list of all texts of so many of the letters, ascending."""
    texts = [""]
    for _ in range(length):
        texts = [text + letter for text in texts for letter in letters]
    return texts


def texts_of(width, length):
    """The list of all texts of so many outcomes, ascending."""
    return texts_over(OUTCOMES[:width], length)


def place_in(text, width):
    """The place of a text of outcomes among the texts of its length."""
    place = 0
    for letter in text:
        place = place * width + OUTCOMES.index(letter)
    return place


def number_in(text, width):
    """The index of a text of outcomes in the order of all beginnings."""
    return inner_count(width, len(text)) + place_in(text, width)


def next_of(values, at, width):
    """Of values in the order of all beginnings, those of the beginnings that follow number at by one outcome."""
    first = at * width + 1
    return values[first:first + width]


def pieces_of(values, size):
    """The list of the pieces into which a list falls, each of so many values."""
    return [values[first:first + size] for first in range(0, len(values), size)]


def nexts_of(values, width):
    """The list of next_of for each inner beginning, in order."""
    return pieces_of(values[1:], width)
