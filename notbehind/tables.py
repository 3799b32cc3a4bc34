"""Tables: one fraction for each row of a shape."""

from notbehind.errors import Mismatch
from notbehind.ratios import (
    ONE, ZERO, checked, checked_all, greatest_of, is_less, least_of, mean_of, minus, plus, times,
)
from notbehind.rows import back_order, renamed, rows_of, span_of
from notbehind.shapes import (
    MOST_WIDTH, check_count, check_row, check_same_shape, check_shape, check_size, inner_count, next_of, place_in,
    row_count, rounds_of_parts,
)


class Table:
    """A shape and one cell for each row, in the order of the rows."""

    def __init__(self, width, rounds, cells):
        check_shape(width, rounds)
        check_size(cells, row_count(width, rounds))
        self.width = width
        self.rounds = rounds
        self._cells = checked_all(cells)

    @property
    def cells(self):
        """A new list of the cells."""
        return list(self._cells)

    def __call__(self, row):
        """The cell of the row."""
        check_row(row, self.width, self.rounds)
        return self._cells[place_in(row, self.width)]

    def __len__(self):
        return len(self._cells)

    def __iter__(self):
        return iter(self._cells)

    def __eq__(self, other):
        return (
            isinstance(other, Table)
            and self.width == other.width
            and self.rounds == other.rounds
            and self._cells == other._cells
        )

    def __add__(self, other):
        check_same_shape(self, other)
        cells = [plus(left, right) for left, right in zip(self._cells, other._cells)]
        return Table(self.width, self.rounds, cells)

    def __sub__(self, other):
        check_same_shape(self, other)
        cells = [minus(left, right) for left, right in zip(self._cells, other._cells)]
        return Table(self.width, self.rounds, cells)

    def __mul__(self, other):
        factor = checked(other)
        return Table(self.width, self.rounds, [times(cell, factor) for cell in self._cells])


def flat(width, rounds, number):
    """The Table all of whose cells are the number."""
    check_shape(width, rounds)
    return Table(width, rounds, [checked(number)] * row_count(width, rounds))


def raised(table, number):
    """The Table with the number added to each cell."""
    return table + flat(table.width, table.rounds, number)


def changed(table, row, number):
    """The Table with the cell of the row replaced by the number."""
    check_row(row, table.width, table.rounds)
    cells = table.cells
    cells[place_in(row, table.width)] = checked(number)
    return Table(table.width, table.rounds, cells)


def lesser(first, second):
    """The Table of the lesser one of two cells."""
    check_same_shape(first, second)
    cells = [least_of([left, right]) for left, right in zip(first.cells, second.cells)]
    return Table(first.width, first.rounds, cells)


def greater(first, second):
    """The Table of the greater one of two cells."""
    check_same_shape(first, second)
    cells = [greatest_of([left, right]) for left, right in zip(first.cells, second.cells)]
    return Table(first.width, first.rounds, cells)


def lowest_table(tables):
    """The Table of the least cells of one or more Tables of one shape."""
    found = tables[0]
    for table in tables[1:]:
        found = lesser(found, table)
    return found


def gathered_along(steps, start, gather):
    """In the order of all beginnings, what each gathers of steps that stand by inner beginning and by outcome."""
    found = [start]
    # The list grows in the order of all beginnings, which is the order of the steps.
    for at, nexts in enumerate(steps):
        so_far = found[at]
        found.extend([gather(so_far, step) for step in nexts])
    return found


def sums_along(steps):
    """In the order of all beginnings, the sums of the steps along each."""
    return gathered_along(steps, ZERO, plus)


def products_along(steps):
    """In the order of all beginnings, the products of the steps along each."""
    return gathered_along(steps, ONE, times)


def summed_table(width, rounds, steps):
    """The Table of the sums along the rows of steps that stand by inner beginning and by outcome."""
    return Table(width, rounds, sums_along(steps)[len(steps):])


def cells_behind(table, beginning):
    """The list of the cells of all rows that begin with a beginning of any length."""
    first, many = span_of(beginning, table.rounds, width=table.width)
    return table.cells[first:first + many]


def mean_behind(table, beginning):
    """The mean behind a beginning of any length."""
    return mean_of(cells_behind(table, beginning))


def worked_back(table, work_out):
    """In the order of all beginnings, the cells behind rows and elsewhere what is worked out from the next values."""
    inner = inner_count(table.width, table.rounds)
    found = [ZERO] * inner + table.cells
    for at in reversed(range(inner)):
        found[at] = work_out(next_of(found, at, table.width))
    return found


def means(table):
    """The list of the means behind all beginnings, in the order of all beginnings."""
    return worked_back(table, mean_of)


def behind(table, beginning):
    """The Table for the rounds that are left behind a beginning of any length."""
    cells = cells_behind(table, beginning)
    return Table(table.width, table.rounds - len(beginning), cells)


def joined_parts(parts):
    """The Table of one round more whose part behind each outcome is the Table at that index."""
    width = len(parts)
    check_count(width, 1, MOST_WIDTH)
    rounds = rounds_of_parts(parts, width)
    cells = []
    for part in parts:
        cells.extend(part.cells)
    return Table(width, rounds, cells)


def renamed_table(order, table):
    """The Table whose cell of renamed(order, row) is the table's cell of the row."""
    back = back_order(order)
    if len(order) != table.width:
        raise Mismatch("an order of another width than the table")
    rows = rows_of(table.rounds, width=table.width)
    return Table(table.width, table.rounds, [table(renamed(back, row)) for row in rows])


def first_above(table, other):
    """The first row at which the cell of table is greater than the cell of other, or None."""
    check_same_shape(table, other)
    rows = rows_of(table.rounds, width=table.width)
    for row, left, right in zip(rows, table.cells, other.cells):
        if is_less(right, left):
            return row
    return None


def is_below(table, other):
    """True if no cell of table is greater than the cell of other."""
    return first_above(table, other) is None


def rows_with(table, cell):
    """The list of the rows that have the cell, ascending."""
    rows = rows_of(table.rounds, width=table.width)
    return [row for row, found in zip(rows, table.cells) if found == cell]


def lowest_rows(table):
    """The list of the rows with the least cell, ascending."""
    return rows_with(table, least_of(table.cells))


def highest_rows(table):
    """The list of the rows with the greatest cell, ascending."""
    return rows_with(table, greatest_of(table.cells))
