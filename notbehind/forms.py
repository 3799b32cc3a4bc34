"""Texts of tables and plans, and reading them back."""

from notbehind.errors import BadText
from notbehind.plans import Plan
from notbehind.rows import beginnings_of, rows_of
from notbehind.shapes import MOST_ROUNDS, MOST_WIDTH
from notbehind.sharings import is_sharing
from notbehind.tables import Table
from notbehind.words import DIGITS, number_or_none, number_text


def table_text(table):
    """The text of the table."""
    lines = [f"table {table.width} {table.rounds}"]
    for row, cell in zip(rows_of(table.rounds, width=table.width), table.cells):
        lines.append(line_text(row, [cell]))
    return "\n".join(lines)


def plan_text(plan):
    """The text of the plan."""
    lines = [f"plan {plan.width} {plan.rounds}"]
    for beginning, sharing in zip(beginnings_of(plan.rounds, width=plan.width), plan.shares):
        lines.append(line_text(beginning, sharing))
    return "\n".join(lines)


def beginning_word(beginning):
    """The word that stands for a beginning in a line."""
    if beginning == "":
        return "-"
    return beginning


def line_text(beginning, numbers):
    """The line of a row or beginning and its numbers."""
    words = [number_text(number) for number in numbers]
    return " ".join([beginning_word(beginning)] + words)


def read_table(text):
    """The Table whose text it is."""
    lines = text.split("\n")
    width, rounds = read_shape(lines, 0, "table")
    rows = rows_of(rounds, width=width)
    cells = [read_line(lines, at, row, 1)[0] for at, row in enumerate(rows, start=1)]
    check_end(lines, len(rows) + 1)
    return Table(width, rounds, cells)


def read_plan(text):
    """The Plan whose text it is."""
    lines = text.split("\n")
    plan, due = plan_at(lines, 0)
    check_end(lines, due)
    return plan


def plan_at(lines, at):
    """The Plan whose lines begin at an index, and the index behind them."""
    width, rounds = read_shape(lines, at, "plan")
    beginnings = beginnings_of(rounds, width=width)
    shares = [read_sharing(lines, place, beginning, width) for place, beginning in enumerate(beginnings, start=at + 1)]
    return (Plan(width, rounds, shares), at + len(beginnings) + 1)


def words_at(lines, at):
    """The list of what stands between single spaces in the line at an index, which must be there."""
    if at >= len(lines):
        raise BadText(len(lines) + 1)
    return lines[at].split(" ")


def read_shape(lines, at, word):
    """The width and the rounds that the line at an index tells behind the word."""
    words = words_at(lines, at)
    if len(words) != 3 or words[0] != word:
        raise BadText(at + 1)
    width = digit_of(words[1])
    rounds = digit_of(words[2])
    if width < 1 or width > MOST_WIDTH or rounds < 0 or rounds > MOST_ROUNDS[width - 1]:
        raise BadText(at + 1)
    return (width, rounds)


def digit_of(word):
    """The integer that a word tells in one digit, otherwise -1."""
    if len(word) != 1:
        return -1
    return DIGITS.find(word)


def read_line(lines, at, beginning, many):
    """The fractions in the line at an index, which is due for a beginning and has so many of them."""
    words = words_at(lines, at)
    if len(words) != many + 1 or words[0] != beginning_word(beginning):
        raise BadText(at + 1)
    numbers = [number_or_none(word) for word in words[1:]]
    if None in numbers:
        raise BadText(at + 1)
    return numbers


def read_sharing(lines, at, beginning, width):
    """The sharing in the line at an index, which is due for a beginning."""
    shares = read_line(lines, at, beginning, width)
    if not is_sharing(shares):
        raise BadText(at + 1)
    return shares


def check_end(lines, due):
    """Raise BadText if there are more lines than are due."""
    if len(lines) > due:
        raise BadText(due + 1)
