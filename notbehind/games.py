"""Games that are played round by round, and their journals."""

from notbehind.errors import BadRow, BadText, GameOver, NothingToTakeBack
from notbehind.filling import wide_folds
from notbehind.forms import beginning_word, check_end, read_shape, words_at
from notbehind.horizons import joined
from notbehind.misses import row_misses, steps_along
from notbehind.ratios import checked, checked_all, minus
from notbehind.rows import most_rounds
from notbehind.shapes import (
    MOST_ROUNDS, check_beginning, check_count, check_outcome, check_same_shape, is_beginning, is_outcome, is_outcomes,
    number_in,
)
from notbehind.sharings import sized_numbers
from notbehind.words import number_or_none, number_text


class Game:
    """A chooser, bounds and the outcomes played so far."""

    def __init__(self, chooser, bounds):
        check_same_shape(chooser, bounds)
        self.closed = False
        self._arrange(chooser, bounds)
        self._go_to("")

    def _arrange(self, chooser, bounds):
        """Let the game have this chooser and these bounds."""
        self.chooser = chooser
        self.bounds = bounds
        self._folds = wide_folds(bounds)

    def _go_to(self, beginning):
        """Let the outcomes played be those of a beginning; the game is not closed."""
        self.beginning = beginning
        self.left = self.chooser.rounds - len(beginning)
        self.done = self.left == 0
        self.misses = row_misses(self.chooser, beginning)
        self.room = minus(self._folds[number_in(beginning, self.chooser.width)], self.misses)

    def _check_open(self):
        """Raise GameOver if the game is closed."""
        if self.closed:
            raise GameOver("the game is closed")

    def _check_not_done(self):
        """Raise GameOver if the game is done."""
        if self.done:
            raise GameOver("the game is done")

    def tell(self):
        """The sharing of the chooser at the beginning."""
        self._check_not_done()
        return self.chooser(self.beginning)

    def come(self, outcome):
        """Play one round with the outcome and return the miss."""
        check_outcome(outcome, self.chooser.width)
        return self.play(outcome)[0]

    def play(self, text):
        """Play the outcomes of a text and return the list of the misses."""
        if not is_outcomes(text, self.chooser.width):
            raise BadRow(text)
        self._check_open()
        if len(text) > self.left:
            raise GameOver("the game has not so many rounds left")
        played = len(self.beginning)
        self._go_to(self.beginning + text)
        return steps_along(self.chooser, self.beginning)[played:]

    def back(self):
        """Take back the last round and return its outcome."""
        self._check_open()
        if self.beginning == "":
            raise NothingToTakeBack("no round is played")
        outcome = self.beginning[-1]
        self._go_to(self.beginning[:-1])
        return outcome

    def close(self):
        """Close the game ahead of its last round."""
        self._check_not_done()
        self.closed = True
        self.done = True

    def lead_on(self, chooser, bounds):
        """Add the rounds of a chooser and its bounds behind the last round."""
        check_same_shape(chooser, bounds)
        # Unlike widths, then too many rounds raise their errors here, ahead of the state of the game.
        longer = self.chooser + chooser
        self._check_open()
        self._arrange(longer, joined(self.bounds, bounds))
        self._go_to(self.beginning)

    def journal(self):
        """The list of the entries of the rounds played."""
        return journal_of(self.chooser, self.beginning)

    def __len__(self):
        return len(self.beginning)

    def __iter__(self):
        return iter(self.beginning)

    def twin(self):
        """A new Game in the same state."""
        game = Game(self.chooser, self.bounds)
        game.play(self.beginning)
        if self.closed:
            game.close()
        return game


def journal_of(chooser, beginning):
    """The journal of a game of the chooser after the outcomes of a beginning."""
    check_beginning(beginning, chooser.width, chooser.rounds)
    steps = steps_along(chooser, beginning)
    entries = []
    for at, outcome in enumerate(beginning):
        ahead = beginning[:at]
        entries.append((ahead, outcome, chooser(ahead), steps[at]))
    return entries


def checked_entry(entry):
    """The entry with fractions for its numbers; nothing else in it is checked."""
    ahead, outcome, numbers, miss = entry
    return (ahead, outcome, tuple(checked_all(numbers)), checked(miss))


def first_wrong_entry(journal, chooser):
    """The index of the first wrong entry of the journal, or None."""
    entries = [checked_entry(entry) for entry in journal]
    played = ""
    for at, entry in enumerate(entries):
        if not is_right_entry(entry, played, chooser):
            return at
        played = played + entry[1]
    return None


def is_right_entry(entry, played, chooser):
    """True if the entry, with fractions, is right behind the outcomes played, which are those of right entries."""
    outcome = entry[1]
    if len(played) == chooser.rounds or not is_outcome(outcome, chooser.width):
        return False
    return entry == journal_of(chooser, played + outcome)[-1]


def is_journal(journal, chooser):
    """True if no entry of the journal is wrong."""
    return first_wrong_entry(journal, chooser) is None


def journal_text(journal, *, width=2):
    """The text of the journal."""
    most = most_rounds(width)
    check_count(len(journal), 0, most)
    lines = [f"journal {width} {len(journal)}"]
    for beginning, outcome, numbers, miss in journal:
        check_beginning(beginning, width, most)
        check_outcome(outcome, width)
        told = sized_numbers(numbers, width) + (checked(miss),)
        lines.append(" ".join([beginning_word(beginning), outcome] + [number_text(number) for number in told]))
    return "\n".join(lines)


def read_journal(text):
    """The journal whose text it is, with fractions."""
    lines = text.split("\n")
    width, many = read_shape(lines, 0, "journal")
    entries = [read_entry(lines, at, width) for at in range(1, many + 1)]
    check_end(lines, many + 1)
    return entries


def read_entry(lines, at, width):
    """The entry in the line at an index."""
    words = words_at(lines, at)
    if len(words) != width + 3 or "" in words:
        raise BadText(at + 1)
    beginning = "" if words[0] == "-" else words[0]
    outcome = words[1]
    numbers = [number_or_none(word) for word in words[2:]]
    if not is_beginning(beginning, width, MOST_ROUNDS[width - 1]) or not is_outcome(outcome, width) or None in numbers:
        raise BadText(at + 1)
    return (beginning, outcome, tuple(numbers[:width]), numbers[width])
