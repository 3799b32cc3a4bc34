"""Games one behind the other: joined tables, rows cut into stretches, plans begun anew, restarts."""

from notbehind.errors import Mismatch, NoHelper
from notbehind.helpers import best_table, distance, hard_foe, nearest_chooser
from notbehind.misses import miss_steps
from notbehind.plans import Plan
from notbehind.ratios import ZERO, plus, sum_of
from notbehind.rows import beginnings_of, most_rounds
from notbehind.shapes import (
    check_count, check_helpers, check_rounds, check_same_width, check_some, row_count,
)
from notbehind.tables import Table

LONGEST = 8


def joined(first, second):
    """The Table whose cells are those of first at the beginning of a row plus those of second at its rest."""
    return joined_all([first, second])


def joined_all(tables):
    """The Tables of a list joined from the first one on."""
    check_some(tables)
    width = tables[0].width
    for table in tables:
        check_same_width(tables[0], table)
    rounds = sum([table.rounds for table in tables])
    # Too many rounds raise BadCount here, before any list grows that long.
    check_rounds(width, rounds)
    cells = [ZERO]
    for table in tables:
        rests = table.cells
        cells = [plus(cell, rest) for cell in cells for rest in rests]
    return Table(width, rounds, cells)


def stretched(table, rounds):
    """The Table with that many rounds whose cell of a row is the table's cell of its first outcomes."""
    width = table.width
    check_count(rounds, table.rounds, most_rounds(width))
    many = row_count(width, rounds - table.rounds)
    return Table(width, rounds, [cell for cell in table.cells for _ in range(many)])


def check_lengths(lengths, due):
    """Raise the errors of a list of lengths whose sum is due to be so great."""
    for length in lengths:
        check_count(length, 0, LONGEST)
    if sum(lengths) != due:
        raise Mismatch("lengths of another sum than the rounds")


def ends_of(lengths):
    """The list of the rounds behind which a stretch begins or ends, 0 the first."""
    ends = [0]
    for length in lengths:
        ends.append(ends[-1] + length)
    return ends


def stretches_of(items, lengths):
    """The list of the pieces of a text or a list, as long as the lengths tell."""
    ends = ends_of(lengths)
    return [items[first:last] for first, last in zip(ends, ends[1:])]


def cut_row(row, lengths):
    """The list of the stretches of the row, texts."""
    check_lengths(lengths, len(row))
    return stretches_of(row, lengths)


def stretch_misses(plan, row, lengths):
    """The list of the sums of the plan's misses in the rounds of each stretch, in order."""
    steps = miss_steps(plan, row)
    check_lengths(lengths, plan.rounds)
    return [sum_of(part) for part in stretches_of(steps, lengths)]


def doubling_lengths(rounds):
    """The list 1, 2, 4 and so on, the last one cut such that the sum is rounds."""
    check_count(rounds, 0, LONGEST)
    lengths = []
    left = rounds
    length = 1
    while left > 0:
        lengths.append(min(length, left))
        left = left - length
        length = length * 2
    return lengths


def anew(plan, lengths):
    """The Plan that has at each beginning the plan's sharing at the part behind the last finished stretch."""
    check_lengths(lengths, plan.rounds)
    ends = ends_of(lengths)
    shares = []
    for beginning in beginnings_of(plan.rounds, width=plan.width):
        last = max([end for end in ends if end <= len(beginning)])
        shares.append(plan(beginning[last:]))
    return Plan(plan.width, plan.rounds, shares)


def check_restart(parts):
    """Raise the errors of a restart."""
    if len(parts) == 0:
        raise NoHelper("a restart without a stretch")
    for helpers in parts:
        check_helpers(helpers)
        check_same_width(parts[0][0], helpers[0])
    check_rounds(parts[0][0].width, sum([helpers[0].rounds for helpers in parts]))


def restart_best(parts):
    """The best table of the restart: the best tables of its stretches joined."""
    check_restart(parts)
    return joined_all([best_table(helpers) for helpers in parts])


def restart_distance(parts):
    """The sum of the distances of the stretches."""
    check_restart(parts)
    return sum_of([distance(helpers) for helpers in parts])


def restart_chooser(parts):
    """The Plan of the nearest choosers of the stretches, one behind the other."""
    check_restart(parts)
    return one_behind_the_other([nearest_chooser(helpers) for helpers in parts])


def restart_foe(parts):
    """The Plan of the hard foes of the stretches, one behind the other."""
    check_restart(parts)
    return one_behind_the_other([hard_foe(helpers) for helpers in parts])


def one_behind_the_other(plans):
    """The sum of one or more Plans."""
    found = plans[0]
    for plan in plans[1:]:
        found = found + plan
    return found
