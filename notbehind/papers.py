"""Slacks, and papers that show what a table of bounds allows."""

from notbehind.errors import BadText
from notbehind.filling import wide_bounds_paper, wide_tight_rows, wide_value_paper
from notbehind.forms import check_end, plan_at, plan_text, words_at
from notbehind.misses import keeps, least_misses, mean_under, misses_table
from notbehind.ratios import checked, is_less, least_of, minus
from notbehind.shapes import check_two, is_same_shape
from notbehind.words import number_or_none, number_text


def slack_table(chooser, table):
    """The Table of the cells less the misses of the chooser."""
    return table - misses_table(chooser)


def least_slack(chooser, table):
    """The least slack of the chooser over all rows."""
    return least_of(slack_table(chooser, table).cells)


def tight_rows(chooser, table):
    """The list of the rows, ascending, on which the slack of the chooser is the fold."""
    check_two(table)
    return wide_tight_rows(chooser, table)


def worth(foe, table):
    """The mean of the table under the foe less its least misses."""
    return minus(mean_under(foe, table), least_misses(foe))


def paper_text(paper):
    """The text of a number and two Plans."""
    number, chooser, foe = paper
    return "\n".join([f"paper {number_text(number)}", plan_text(chooser), plan_text(foe)])


def read_paper(text):
    """The tuple of a fraction and two Plans whose text it is."""
    lines = text.split("\n")
    number = paper_number(lines)
    chooser, at = plan_at(lines, 1)
    foe, due = plan_at(lines, at)
    check_end(lines, due)
    return (number, chooser, foe)


def paper_number(lines):
    """The fraction that the first line of a paper tells."""
    words = words_at(lines, 0)
    if len(words) != 2 or words[0] != "paper":
        raise BadText(1)
    number = number_or_none(words[1])
    if number is None:
        raise BadText(1)
    return number


def bounds_paper(table):
    """The keeper if it keeps the table, otherwise the breaker, behind the word that says so."""
    check_two(table)
    return wide_bounds_paper(table)


def is_bounds_paper(table, paper):
    """True if the Plan of the paper keeps the table, or breaks it, as its word says."""
    word, plan = paper
    if not is_same_shape(plan, table):
        return False
    if word == "kept":
        return keeps(plan, table)
    above, _ = worth(plan, table)
    return above < 0


def value_paper(table):
    """The value paper of the fold, the keeper and the breaker."""
    check_two(table)
    return wide_value_paper(table)


def is_value_paper(table, paper):
    """True if the chooser and the foe of the paper show that its number is the fold of the table."""
    value, chooser, foe = paper
    number = checked(value)
    if not is_same_shape(chooser, table) or not is_same_shape(foe, table):
        return False
    return not is_less(least_slack(chooser, table), number) and not is_less(number, worth(foe, table))
