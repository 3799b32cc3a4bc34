"""Games with sides: a side letter is told ahead of each round, and plans may heed it."""

from notbehind.errors import BadRow, Mismatch
from notbehind.filling import wide_fold
from notbehind.levels import chances_of, shares_of, step_of
from notbehind.misses import miss_steps, misses_table
from notbehind.papers import least_slack, worth
from notbehind.plans import Plan
from notbehind.ratios import checked, is_less, least_of, opposite, places_of_least, sum_of
from notbehind.rows import beginnings_of, rows_of
from notbehind.shapes import (
    OUTCOMES, check_beginning, check_helpers, check_row, check_size, is_same_shape, row_count, texts_of,
)
from notbehind.sharings import checked_sharing
from notbehind.spots import (
    SIDE_LETTERS, check_side, check_side_row, check_sided_shape, is_calls, side_texts, side_told, sided_limit,
)
from notbehind.tables import Table, lowest_table


def most_sided(sides, width):
    """The most rounds for sides and a width."""
    return sided_limit(sides, width)


def side_rows(rounds, *, sides=2):
    """The list of the side rows, ascending."""
    check_sided_shape(sides, 1, rounds)
    return side_texts(sides, rounds)


def side_spots(rounds, *, sides=2, width=2):
    """The list of the spots in order."""
    check_sided_shape(sides, width, rounds)
    found = []
    for length in range(rounds):
        beginnings = texts_of(width, length)
        found.extend([(side, beginning) for side in side_texts(sides, length + 1) for beginning in beginnings])
    return found


class Sided:
    """A number of sides, a shape and one Table for each side row, in their order."""

    def __init__(self, sides, width, rounds, tables):
        check_sided_shape(sides, width, rounds)
        check_size(tables, row_count(sides, rounds))
        for table in tables:
            if table.width != width or table.rounds != rounds:
                raise Mismatch("a table of another shape")
        self.sides = sides
        self.width = width
        self.rounds = rounds
        self._by_side = dict(zip(side_texts(sides, rounds), tables))

    @property
    def tables(self):
        """A new list of the Tables."""
        return list(self._by_side.values())

    def __call__(self, side, row):
        """The bound for a side row and a row."""
        check_side_row(side, self.sides, self.rounds)
        table = self._by_side[side]
        return table(row)

    def __eq__(self, other):
        return (
            isinstance(other, Sided)
            and self.sides == other.sides
            and self.width == other.width
            and self.rounds == other.rounds
            and self._by_side == other._by_side
        )


class SidePlan:
    """A number of sides, a shape and one sharing for each spot, in their order."""

    def __init__(self, sides, width, rounds, shares):
        # A wrong shape raises its error here, ahead of those of the shares.
        spots = side_spots(rounds, sides=sides, width=width)
        check_size(shares, len(spots))
        self.sides = sides
        self.width = width
        self.rounds = rounds
        self._by_spot = {spot: checked_sharing(item, width, spot[1]) for spot, item in zip(spots, shares)}

    @property
    def shares(self):
        """A new list of the sharings."""
        return list(self._by_spot.values())

    def __call__(self, side, beginning):
        """The sharing at a spot."""
        check_side(side, self.sides, self.rounds)
        check_row(beginning, self.width, len(side) - 1)
        return self._by_spot[(side, beginning)]

    def __eq__(self, other):
        return (
            isinstance(other, SidePlan)
            and self.sides == other.sides
            and self.width == other.width
            and self.rounds == other.rounds
            and self._by_spot == other._by_spot
        )


def side_misses(plan, side, row):
    """The misses of the side plan for a side row and a row."""
    return sum_of(miss_steps(unsided(plan, side), row))


def side_table(plan, side):
    """The Table of the misses of the side plan on all rows for a side row."""
    return misses_table(unsided(plan, side))


def unsided(plan, side):
    """The Plan that the side plan is where the side row is told."""
    check_side_row(side, plan.sides, plan.rounds)
    beginnings = beginnings_of(plan.rounds, width=plan.width)
    return Plan(plan.width, plan.rounds, [plan(side[:len(beginning) + 1], beginning) for beginning in beginnings])


def same_sided(sides, table):
    """The Sided all of whose Tables are equal to the table."""
    check_sided_shape(sides, table.width, table.rounds)
    return Sided(sides, table.width, table.rounds, [table] * row_count(sides, table.rounds))


def quiet_and_levels(sided):
    """The sided fold, and for each spot the quiet folds of the next beginnings, by spot in order."""
    width = sided.width
    rows = rows_of(sided.rounds, width=width)
    quiet = {}
    for side, table in zip(side_texts(sided.sides, sided.rounds), sided.tables):
        for row, cell in zip(rows, table.cells):
            quiet[(side, row)] = cell
    spots = side_spots(sided.rounds, sides=sided.sides, width=width)
    levels = {}
    # Longer sides stand behind shorter ones, so that the quiet folds of the next beginnings are there already.
    for side, beginning in reversed(spots):
        nexts = [quiet[(side, beginning + outcome)] for outcome in OUTCOMES[:width]]
        levels[(side, beginning)] = nexts
        told = step_of(nexts)
        untold = (side[:-1], beginning)
        quiet[untold] = least_of([told, quiet.get(untold, told)])
    return (quiet[("", "")], {spot: levels[spot] for spot in spots})


def sided_fold(sided):
    """The greatest amount by which a side plan can stay below all bounds."""
    fold, _ = quiet_and_levels(sided)
    return fold


def ahead_fold(sided):
    """The least fold of the Tables: what is guaranteed to a chooser that knows the whole side row."""
    return least_of([wide_fold(table) for table in sided.tables])


def sided_keeper(sided):
    """The SidePlan that stays as far below all bounds as the sided fold tells."""
    _, levels = quiet_and_levels(sided)
    return SidePlan(sided.sides, sided.width, sided.rounds, [shares_of(nexts) for nexts in levels.values()])


def sided_caller(sided):
    """The letters that a foe tells at the inner beginnings, a text, and the Plan of its chances there."""
    _, levels = quiet_and_levels(sided)
    letters = SIDE_LETTERS[:sided.sides]
    calls = ""
    chances = []
    for beginning in beginnings_of(sided.rounds, width=sided.width):
        # The letters at all shorter beginnings are told already.
        side = side_told(calls, beginning, sided.width)
        told = [step_of(levels[(side + letter, beginning)]) for letter in letters]
        letter = letters[places_of_least(told)[0]]
        calls = calls + letter
        chances.append(chances_of(levels[(side + letter, beginning)]))
    return (calls, Plan(sided.width, sided.rounds, chances))


def side_row_of(calls, row, *, sides=2, width=2):
    """The side row that the calls tell for the row."""
    check_beginning(row, width, most_sided(sides, width))
    if not is_calls(calls, sides, width, len(row)):
        raise BadRow(calls)
    return side_told(calls, row, width)


def is_same_sided_shape(first, second):
    """True if two objects have the same sides and the same shape."""
    return first.sides == second.sides and is_same_shape(first, second)


def check_same_sided_shape(first, second):
    """Raise Mismatch unless two objects have the same sides and the same shape."""
    if not is_same_sided_shape(first, second):
        raise Mismatch("two unlike sides or shapes")


def sided_slack(plan, sided):
    """The least bound less the misses of the side plan, over all side rows and rows."""
    check_same_sided_shape(plan, sided)
    sides = side_texts(sided.sides, sided.rounds)
    return least_of([least_slack(unsided(plan, side), table) for side, table in zip(sides, sided.tables)])


def sided_paper(sided):
    """The sided paper of the sided fold, the sided keeper and the sided caller."""
    calls, foe = sided_caller(sided)
    return (sided_fold(sided), sided_keeper(sided), calls, foe)


def called_table(sided, calls):
    """The Table of the bounds for the rows and the side rows that the calls tell for them."""
    rows = rows_of(sided.rounds, width=sided.width)
    return Table(sided.width, sided.rounds, [sided(side_told(calls, row, sided.width), row) for row in rows])


def is_sided_paper(sided, paper):
    """True if the side plan, the calls and the foe of the paper show that its number is the sided fold."""
    value, plan, calls, foe = paper
    number = checked(value)
    if not is_same_sided_shape(plan, sided) or not is_same_shape(foe, sided):
        return False
    if not is_calls(calls, sided.sides, sided.width, sided.rounds):
        return False
    return not is_less(sided_slack(plan, sided), number) and not is_less(number, worth(foe, called_table(sided, calls)))


def sided_best(helpers):
    """The Sided of the least misses of the helpers, a list of SidePlans."""
    check_helpers(helpers)
    first = helpers[0]
    for helper in helpers:
        check_same_sided_shape(first, helper)
    tables = []
    for side in side_texts(first.sides, first.rounds):
        tables.append(lowest_table([side_table(helper, side) for helper in helpers]))
    return Sided(first.sides, first.width, first.rounds, tables)


def sided_distance(helpers):
    """The least distance behind the best helper that a side plan has."""
    return opposite(sided_fold(sided_best(helpers)))
