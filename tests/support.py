"""What the tests share: strict comparison, a model over Fraction, and values that are no numbers."""

import itertools
import unittest
from fractions import Fraction

from notbehind.errors import BadCount, NotBehindError

MOST_ROUNDS = {1: 8, 2: 8, 3: 5, 4: 4, 5: 3}
SHAPES = [(width, rounds) for width in MOST_ROUNDS for rounds in range(MOST_ROUNDS[width] + 1)]
EDGE_SHAPES = [(width, rounds) for width, most in MOST_ROUNDS.items() for rounds in (0, 1, most)]
SMALL_SHAPES = [(1, 0), (1, 3), (2, 0), (2, 1), (2, 3), (3, 2), (4, 2), (5, 1), (5, 2)]

HUGE = 10 ** 60

NOT_NUMBERS = [
    None, True, False, "", "1", "1/2", b"1", 0.5, 1.0, {}, {1: 2}, [], [1], [1, 2], [(1, 2)],
    (), (1,), (1, 2, 3), (1, 0), (0, 0), (1, -1), (-1, -2), (True, 2), (False, 2), (1, True), (True, True),
    (None, 2), (1, None), ("1", 2), (1, "2"), (1.0, 2), (1, 2.0), ([1], 2), (1, [2]), ((1, 2), 3), (1, (2, 1)),
    object(),
]


def kinds(value):
    """The value with the kinds of all its parts, so that 1 and True, or (1,) and [1], are told apart."""
    if type(value) in (list, tuple):
        return (type(value).__name__, [kinds(item) for item in value])
    return (type(value).__name__, value)


class Case(unittest.TestCase):
    """A test case with comparisons as strict as the document's words."""

    def same(self, answer, expected):
        if kinds(answer) != kinds(expected):
            self.assertEqual(answer, expected)
            self.fail(f"equal, but of unlike kinds: {answer!r} and {expected!r}")

    def raises(self, error, told, call, *args, **keywords):
        """The call raises just this error, with these attributes."""
        with self.assertRaises(NotBehindError) as caught:
            call(*args, **keywords)
        self.assertIs(type(caught.exception), error)
        for name, value in told.items():
            self.same(getattr(caught.exception, name), value)

    def new_list(self, call):
        """Each call of a function without arguments returns a list of its own."""
        first = call()
        self.assertIs(type(first), list)
        kept = list(first)
        first.append("more")
        first.reverse()
        self.assertIsNot(call(), first)
        self.same(call(), kept)

    def wrong_shapes(self, call):
        """The call takes a width and rounds and raises BadCount for wrong ones, the width first."""
        for wrong in wrong_counts(1, 5):
            for rounds in (0, 1, -1, 9, True):
                with self.subTest(width=wrong, rounds=rounds):
                    self.raises(BadCount, {"found": wrong, "low": 1, "high": 5}, call, wrong, rounds)
        for width, most in MOST_ROUNDS.items():
            for wrong in wrong_counts(0, most):
                with self.subTest(width=width, rounds=wrong):
                    self.raises(BadCount, {"found": wrong, "low": 0, "high": most}, call, width, wrong)


def pair(value):
    """The fraction, as the program returns it, of an integer or a Fraction."""
    value = Fraction(value)
    return (value.numerator, value.denominator)


def pairs(values):
    return [pair(value) for value in values]


def value_of(number):
    """The Fraction of a number as it may be passed."""
    if isinstance(number, tuple):
        return Fraction(*number)
    return Fraction(number)


def texts(width, length):
    return ["".join(letters) for letters in itertools.product("01234"[:width], repeat=length)]


def inner_texts(width, rounds):
    return [text for length in range(rounds) for text in texts(width, length)]


def all_texts(width, rounds):
    return inner_texts(width, rounds) + texts(width, rounds)


def some_numbers(many, seed=1):
    """Numbers of all forms: integers, fractions, some not in lowest terms, below and above 0."""
    found = []
    for at in range(many):
        state = (at * 7919 + seed * 104729) % 1009
        above = state % 23 - 11
        below = state % 6 + 1
        factor = state % 3 + 1
        found.append(above if state % 5 == 0 else (above * factor, below * factor))
    return found


def some_shares(width, rounds, seed=1):
    """Sharings of all forms, one for each inner beginning; some shares are 0."""
    return some_sharings(len(inner_texts(width, rounds)), width, seed)


def some_sharings(many, width, seed=1):
    found = []
    for at in range(many):
        parts = [((at * 31 + y * 17 + seed * 13) ** 2) % 7 for y in range(width)]
        if sum(parts) == 0:
            parts[(at + seed) % width] = 1
        shares = [(2 * part, 2 * sum(parts)) for part in parts]
        found.append(tuple(shares) if at % 2 else shares)
    return found


def share_values(shares):
    return [[value_of(share) for share in sharing] for sharing in shares]


def share_pairs(shares):
    return [tuple(pair(value_of(share)) for share in sharing) for sharing in shares]


def wrong_counts(low, high):
    """Integers and bools that are no count from low to high."""
    return [low - 1, high + 1, low - HUGE, high + HUGE, True, False]


def wrong_texts(width):
    """Texts that have a character beside the outcomes of a width, at any place."""
    beyond = "012345"[width]
    return [beyond, "0" + beyond, beyond + "0", "0" + beyond + "0", "-", " ", "a", "0 ", " 0", "/", ":", "~", "9", "00 "]
