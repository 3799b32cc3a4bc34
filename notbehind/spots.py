"""Side letters and what is made of them: checks of sides, side rows, sides of spots and calls."""

from notbehind.errors import BadRow
from notbehind.shapes import check_count, check_width, inner_count, is_made_of, number_in, texts_over

SIDE_LETTERS = "abc"
# By the product of the sides and the width.
MOST_SIDED = {1: 8, 2: 8, 3: 5, 4: 4, 5: 3, 6: 3, 8: 2, 9: 2, 10: 2, 12: 2, 15: 2}


def sided_limit(sides, width):
    """The most rounds for sides and a width, both of which are checked."""
    check_count(sides, 1, len(SIDE_LETTERS))
    check_width(width)
    return MOST_SIDED[sides * width]


def check_sided_shape(sides, width, rounds):
    """Raise BadCount for wrong sides, then for a wrong width, then for wrong rounds."""
    check_count(rounds, 0, sided_limit(sides, width))


def side_texts(sides, length):
    """The list of all texts of so many side letters, ascending."""
    return texts_over(SIDE_LETTERS[:sides], length)


def is_side_text(text, sides, length):
    """True if the text has so many characters, all of them side letters."""
    return len(text) == length and is_made_of(text, SIDE_LETTERS[:sides])


def check_side_row(side, sides, rounds):
    """Raise BadRow unless the text is a side row."""
    if not is_side_text(side, sides, rounds):
        raise BadRow(side)


def check_side(side, sides, rounds):
    """Raise BadRow unless the text is the side of a spot."""
    if side == "" or len(side) > rounds:
        raise BadRow(side)
    check_side_row(side, sides, len(side))


def is_calls(text, sides, width, rounds):
    """True if the text has one side letter for each inner beginning."""
    return is_side_text(text, sides, inner_count(width, rounds))


def side_told(calls, beginning, width):
    """The side letters that the calls tell at the shorter beginnings of a beginning, in order."""
    return "".join([calls[number_in(beginning[:at], width)] for at in range(len(beginning))])
