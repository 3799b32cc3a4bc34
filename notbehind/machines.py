"""Machines: few states, each with a sharing and a next state for each outcome."""

from notbehind.errors import BadText
from notbehind.forms import check_end, digit_of, words_at
from notbehind.plans import Plan
from notbehind.ratios import ONE, minus, sum_of
from notbehind.rows import beginnings_of
from notbehind.shapes import (
    MOST_ROUNDS, MOST_WIDTH, OUTCOMES, check_beginning, check_count, check_size, check_width,
)
from notbehind.sharings import checked_sharing, is_sharing, sure_sharing
from notbehind.words import number_or_none, number_text

MOST_STATES = 6


class Machine:
    """A width and states, each with what it tells and where it moves with each outcome."""

    def __init__(self, width, tells, moves, *, start=0):
        check_width(width)
        check_count(len(tells), 1, MOST_STATES)
        states = len(tells)
        self.width = width
        self.states = states
        self._tells = [checked_sharing(item, width, state) for state, item in enumerate(tells)]
        check_size(moves, states)
        self._moves = [checked_moves(item, width, states) for item in moves]
        check_count(start, 0, states - 1)
        self.start = start

    @property
    def tells(self):
        """A new list of the sharings of the states."""
        return list(self._tells)

    @property
    def moves(self):
        """A new list of the next states of the states."""
        return list(self._moves)

    def __eq__(self, other):
        return (
            isinstance(other, Machine)
            and self.width == other.width
            and self._tells == other._tells
            and self._moves == other._moves
            and self.start == other.start
        )


def checked_moves(nexts, width, states):
    """The tuple of the next states of a list, one for each outcome."""
    check_size(nexts, width)
    for state in nexts:
        check_count(state, 0, states - 1)
    return tuple(nexts)


def run_states(machine, text):
    """The list of the states on the outcomes of a text, the start first."""
    check_beginning(text, machine.width, MOST_ROUNDS[machine.width - 1])
    moves = machine.moves
    states = [machine.start]
    for outcome in text:
        nexts = moves[states[-1]]
        states.append(nexts[OUTCOMES.index(outcome)])
    return states


def machine_misses(machine, text):
    """The misses of the machine's plan on the text."""
    states = run_states(machine, text)
    tells = machine.tells
    # The state behind the last outcome tells nothing that counts.
    shares = [tells[state][OUTCOMES.index(outcome)] for state, outcome in zip(states, text)]
    return sum_of([minus(ONE, share) for share in shares])


def machine_plan(machine, rounds):
    """The plan of the machine with that many rounds."""
    many = len(beginnings_of(rounds, width=machine.width))
    moves = machine.moves
    states = [machine.start]
    # The list grows in the order of all beginnings.
    for at in range(many):
        states.extend(moves[states[at]])
    tells = machine.tells
    return Plan(machine.width, rounds, [tells[state] for state in states[:many]])


def constant_machine(width, shares):
    """The Machine of one state that tells the sharing."""
    check_width(width)
    return Machine(width, [shares], [[0] * width])


def last_machine(width, shares):
    """The Machine that tells the sharing first and from then on the outcome that came last."""
    check_width(width)
    tells = [shares] + [sure_sharing(width, outcome) for outcome in range(width)]
    return Machine(width, tells, [list(range(1, width + 1))] * (width + 1))


def machine_text(machine):
    """The text of the machine."""
    lines = [f"machine {machine.width} {machine.states} {machine.start}"]
    for state, shares in enumerate(machine.tells):
        words = [str(state)] + [number_text(share) for share in shares]
        nexts = [str(place) for place in machine.moves[state]]
        lines.append(" ".join(words + ["->"] + nexts))
    return "\n".join(lines)


def read_machine(text):
    """The Machine whose text it is."""
    lines = text.split("\n")
    width, states, start = read_first(lines)
    found = [read_state(lines, state, width, states) for state in range(states)]
    check_end(lines, states + 1)
    tells = [shares for shares, _ in found]
    moves = [nexts for _, nexts in found]
    return Machine(width, tells, moves, start=start)


def read_first(lines):
    """The width, the number of states and the start that the first line tells."""
    words = words_at(lines, 0)
    if len(words) != 4 or words[0] != "machine":
        raise BadText(1)
    width, states, start = [digit_of(word) for word in words[1:]]
    if width < 1 or width > MOST_WIDTH or states < 1 or states > MOST_STATES or start < 0 or start >= states:
        raise BadText(1)
    return (width, states, start)


def read_state(lines, state, width, states):
    """The sharing and the next states in the line that is due for a state."""
    words = words_at(lines, state + 1)
    if len(words) != width * 2 + 2 or words[0] != str(state) or words[width + 1] != "->":
        raise BadText(state + 2)
    shares = [number_or_none(word) for word in words[1:width + 1]]
    nexts = [digit_of(word) for word in words[width + 2:]]
    if None in shares or not is_sharing(shares):
        raise BadText(state + 2)
    if min(nexts) < 0 or max(nexts) >= states:
        raise BadText(state + 2)
    return (shares, nexts)
