"""Points 56 to 60, and the section notbehind/sides.py."""

import unittest
from fractions import Fraction

from model import chance_of, filling, lowest_misses, misses_on
from notbehind.errors import BadCount, BadNumber, BadRow, BadShare, BadSize, Mismatch, NoHelper
from notbehind.filling import wide_fold, wide_keeper
from notbehind.misses import misses_table
from notbehind.plans import Plan, even_plan, sure_plan
from notbehind.sides import (
    SidePlan, Sided, ahead_fold, is_sided_paper, most_sided, same_sided, side_misses, side_row_of, side_rows, side_spots,
    side_table, sided_best, sided_caller, sided_distance, sided_fold, sided_keeper, sided_paper, sided_slack, unsided,
)
from notbehind.tables import Table, flat
from support import (
    MOST_ROUNDS, NOT_NUMBERS, Case, all_texts, inner_texts, pair, pairs, share_pairs, some_numbers, some_sharings, texts,
    value_of, wrong_counts, wrong_texts,
)

SMALL = Fraction(1, 10 ** 25)
MOST = {
    (1, 1): 8, (1, 2): 8, (1, 3): 5, (1, 4): 4, (1, 5): 3,
    (2, 1): 8, (2, 2): 4, (2, 3): 3, (2, 4): 2, (2, 5): 2,
    (3, 1): 5, (3, 2): 3, (3, 3): 2, (3, 4): 2, (3, 5): 2,
}
SHAPES = [(sides, width, rounds) for (sides, width), most in MOST.items() for rounds in range(most + 1)]
SMALL_SHAPES = [
    (1, 1, 2), (1, 2, 3), (1, 5, 1), (2, 1, 3), (2, 2, 0), (2, 2, 1), (2, 2, 2), (2, 3, 2), (3, 1, 2), (3, 2, 2), (3, 5, 1),
]


def side_texts(sides, length):
    """All texts of so many side letters, ascending, from texts of outcomes."""
    return [text.translate(str.maketrans("012", "abc")) for text in texts(sides, length)]


def spots_of(sides, width, rounds):
    found = [(side, b) for n in range(rounds) for side in side_texts(sides, n + 1) for b in texts(width, n)]
    return sorted(found, key=lambda spot: (len(spot[1]), spot[0], spot[1]))


def some_sided(sides, width, rounds, seed=1):
    tables = []
    for at in range(sides ** rounds):
        numbers = some_numbers(width ** rounds, seed + 7 * at)
        tables.append(Table(width, rounds, [pair(value_of(number) / 5) for number in numbers]))
    return Sided(sides, width, rounds, tables)


def some_side_shares(sides, width, rounds, seed=1):
    """Sharings of all forms, one for each spot; some shares are 0."""
    return some_sharings(len(spots_of(sides, width, rounds)), width, seed)


def some_side_plan(sides, width, rounds, seed=1):
    return SidePlan(sides, width, rounds, some_side_shares(sides, width, rounds, seed))


def even_side_plan(sides, width, rounds):
    return SidePlan(sides, width, rounds, [[(1, width)] * width] * len(spots_of(sides, width, rounds)))


def bounds_of(sided):
    return {
        (side, row): value_of(sided.tables[at](row))
        for at, side in enumerate(side_texts(sided.sides, sided.rounds)) for row in texts(sided.width, sided.rounds)
    }


def misses_by_hand(plan, side, row):
    at_spot = dict(zip(spots_of(plan.sides, plan.width, plan.rounds), plan.shares))
    found = Fraction(0)
    for at, outcome in enumerate(row):
        found += 1 - value_of(at_spot[(side[:at + 1], row[:at])][int(outcome)])
    return found


def slack_by_hand(plan, sided):
    return min(bound - misses_by_hand(plan, side, row) for (side, row), bound in bounds_of(sided).items())


def folds_by_hand(sided):
    """The quiet folds and the told fillings of point 58, from the top of the game down."""
    bounds, quiet, told = bounds_of(sided), {}, {}
    letters, outcomes = "abc"[:sided.sides], "01234"[:sided.width]

    def quiet_fold(side, b):
        if (side, b) not in quiet:
            if len(b) == sided.rounds:
                quiet[(side, b)] = bounds[(side, b)]
            else:
                quiet[(side, b)] = min(told_filling(side + letter, b)[0] for letter in letters)
        return quiet[(side, b)]

    def told_filling(side, b):
        if (side, b) not in told:
            told[(side, b)] = filling([quiet_fold(side, b + outcome) for outcome in outcomes])
        return told[(side, b)]

    quiet_fold("", "")
    return quiet, told


def side_of(calls, row, width):
    numbered = {b: at for at, b in enumerate(all_texts(width, len(row)))}
    return "".join(calls[numbered[row[:at]]] for at in range(len(row)))


def mean_by_hand(sided, calls, foe):
    bounds = bounds_of(sided)
    return sum(
        (chance_of(foe, row) * bounds[(side_of(calls, row, sided.width), row)] for row in texts(sided.width, sided.rounds)),
        Fraction(0),
    )


class Counts(Case):
    def test_the_most_rounds(self):
        for (sides, width), most in MOST.items():
            self.same(most_sided(sides, width), most)
        for width, most in MOST_ROUNDS.items():
            self.same(most_sided(1, width), most)

    def test_wrong_sides_ahead_of_a_wrong_width_and_wrong_rounds(self):
        calls = [
            lambda sides: most_sided(sides, 6), lambda sides: most_sided(sides, 2), lambda sides: side_rows(9, sides=sides),
            lambda sides: side_spots(9, sides=sides, width=6), lambda sides: Sided(sides, 6, 9, [None]),
            lambda sides: SidePlan(sides, 6, 9, [None]), lambda sides: side_row_of("x", "x", sides=sides, width=6),
            lambda sides: side_row_of("", "", sides=sides), lambda sides: same_sided(sides, flat(2, 8, 0)),
        ]
        for wrong in wrong_counts(1, 3):
            for call in calls:
                self.raises(BadCount, {"found": wrong, "low": 1, "high": 3}, call, wrong)

    def test_a_wrong_width_ahead_of_wrong_rounds(self):
        for sides in (1, 2, 3):
            for wrong in wrong_counts(1, 5):
                told = {"found": wrong, "low": 1, "high": 5}
                self.raises(BadCount, told, most_sided, sides, wrong)
                self.raises(BadCount, told, side_spots, 9, sides=sides, width=wrong)
                self.raises(BadCount, told, Sided, sides, wrong, 9, [])
                self.raises(BadCount, told, SidePlan, sides, wrong, 9, [])
                self.raises(BadCount, told, side_row_of, "x", "x", sides=sides, width=wrong)

    def test_wrong_rounds(self):
        for (sides, width), most in MOST.items():
            for wrong in wrong_counts(0, most):
                told = {"found": wrong, "low": 0, "high": most}
                self.raises(BadCount, told, side_spots, wrong, sides=sides, width=width)
                self.raises(BadCount, told, Sided, sides, width, wrong, [])
                self.raises(BadCount, told, SidePlan, sides, width, wrong, [[None]])
                if width == 1:
                    self.raises(BadCount, told, side_rows, wrong, sides=sides)

    def test_side_rows(self):
        for sides, most in ((1, 8), (2, 8), (3, 5)):
            for rounds in range(most + 1):
                self.same(side_rows(rounds, sides=sides), side_texts(sides, rounds))
        self.same(side_rows(2), ["aa", "ab", "ba", "bb"])
        self.same(side_rows(0), [""])
        self.new_list(lambda: side_rows(3))

    def test_spots(self):
        for sides, width, rounds in SHAPES:
            self.same(side_spots(rounds, sides=sides, width=width), spots_of(sides, width, rounds))
        self.same(side_spots(1), [("a", ""), ("b", "")])
        self.same(side_spots(2)[2:6], [("aa", "0"), ("aa", "1"), ("ab", "0"), ("ab", "1")])
        self.same(side_spots(0, sides=3), [])
        self.new_list(lambda: side_spots(2))


class SidedTables(Case):
    def test_properties_and_calls(self):
        for sides, width, rounds in SHAPES:
            sided = some_sided(sides, width, rounds)
            self.same((sided.sides, sided.width, sided.rounds), (sides, width, rounds))
            self.assertIs(type(sided.tables), list)
            for at, side in enumerate(side_texts(sides, rounds)[:40]):
                for row in texts(width, rounds)[::5]:
                    self.same(sided(side, row), sided.tables[at](row))

    def test_the_list_passed_and_the_lists_told(self):
        tables = [flat(2, 1, 0), flat(2, 1, 1)]
        for passed in (tables, tuple(tables)):
            sided = Sided(2, 2, 1, passed)
            self.same([table == due for table, due in zip(sided.tables, tables)], [True, True])
        sided = Sided(2, 2, 1, tables)
        tables[0] = flat(2, 1, 9)
        tables.append(tables[0])
        sided.tables.clear()
        self.same((sided("a", "0"), sided("b", "0"), len(sided.tables)), ((0, 1), (1, 1), 2))
        self.same(sided.tables is sided.tables, False)

    def test_equality(self):
        sided = some_sided(2, 2, 2)
        self.same(sided == some_sided(2, 2, 2), True)
        self.same(sided == sided, True)
        for at in range(4):
            tables = sided.tables
            tables[at] = flat(2, 2, (1, 77))
            self.same(sided == Sided(2, 2, 2, tables), False)
        self.same(same_sided(1, flat(2, 0, 0)) == same_sided(2, flat(2, 0, 0)), False)
        self.same(same_sided(2, flat(2, 0, 0)) == same_sided(2, flat(3, 0, 0)), False)
        self.same(same_sided(1, flat(1, 2, 0)) == same_sided(1, flat(1, 1, 0)), False)

    def test_wrong_numbers_of_tables_and_other_shapes(self):
        for sides, width, rounds in SHAPES:
            due = sides ** rounds
            for many in (0, due - 1, due + 1):
                if many != due:
                    tables = [flat(1, 0, 0)] * many
                    self.raises(BadSize, {"found": many, "due": due}, Sided, sides, width, rounds, tables)
        for at in range(4):
            for shape in ((2, 1), (3, 2), (2, 3), (1, 2)):
                tables = [flat(2, 2, 0)] * 4
                tables[at] = flat(*shape, 0)
                self.raises(Mismatch, {}, Sided, 2, 2, 2, tables)

    def test_wrong_sides_and_rows(self):
        sided = some_sided(2, 2, 2)
        for wrong in ("", "a", "aaa", "ac", "00", "AB", "a b", "x" * 99):
            for row in ("00", "x", ""):
                self.raises(BadRow, {"found": wrong}, sided, wrong, row)
        for wrong in [*wrong_texts(2), "", "0", "000"]:
            self.raises(BadRow, {"found": wrong}, sided, "ab", wrong)
        self.same(some_sided(2, 2, 0)("", "") == some_sided(2, 2, 0).tables[0](""), True)
        self.raises(BadRow, {"found": "a"}, some_sided(2, 2, 0), "a", "")

    def test_same_tables(self):
        for sides, width, rounds in SHAPES:
            table = Table(width, rounds, some_numbers(width ** rounds))
            sided = same_sided(sides, table)
            self.same((sided.sides, len(sided.tables)), (sides, sides ** rounds))
            self.same(all(other == table for other in sided.tables), True)
            self.same(sided == Sided(sides, width, rounds, [table] * sides ** rounds), True)
        for (sides, width), most in MOST.items():
            for rounds in range(most + 1, MOST_ROUNDS[width] + 1):
                told = {"found": rounds, "low": 0, "high": most}
                self.raises(BadCount, told, same_sided, sides, flat(width, rounds, 0))


class SidePlans(Case):
    def test_properties_and_calls(self):
        for sides, width, rounds in SHAPES:
            shares = some_side_shares(sides, width, rounds)
            plan = SidePlan(sides, width, rounds, tuple(shares))
            self.same((plan.sides, plan.width, plan.rounds), (sides, width, rounds))
            self.same(plan.shares, share_pairs(shares))
            for (side, beginning), sharing in list(zip(spots_of(sides, width, rounds), plan.shares))[::7]:
                self.same(plan(side, beginning), sharing)
        self.new_list(lambda: some_side_plan(2, 2, 2).shares)

    def test_lists_are_not_kept(self):
        shares = [[1, 0], [0, 1]]
        plan = SidePlan(2, 2, 1, shares)
        shares[0][0] = 7
        shares.clear()
        self.same((plan("a", ""), plan("b", "")), (((1, 1), (0, 1)), ((0, 1), (1, 1))))

    def test_equality(self):
        plan = some_side_plan(2, 2, 2)
        self.same(plan == some_side_plan(2, 2, 2), True)
        for at in range(10):
            shares = plan.shares
            shares[at] = ((1, 77), (76, 77))
            self.same(plan == SidePlan(2, 2, 2, shares), False)
        nothing = [SidePlan(sides, width, 0, []) for sides in (1, 2, 3) for width in range(1, 6)]
        for at, first in enumerate(nothing):
            for place, second in enumerate(nothing):
                self.same(first == second, at == place)
        self.same(SidePlan(1, 1, 1, [[1]]) == SidePlan(1, 1, 2, [[1], [1]]), False)
        self.same(SidePlan(1, 2, 1, [[1, 0]]) == even_plan(2, 1), False)
        self.same(even_plan(2, 0) == SidePlan(1, 2, 0, []), False)

    def test_wrong_numbers_of_sharings(self):
        for sides, width, rounds in SHAPES:
            due = len(spots_of(sides, width, rounds))
            for many in (0, due - 1, due + 1):
                if many != due and many >= 0:
                    told = {"found": many, "due": due}
                    self.raises(BadSize, told, SidePlan, sides, width, rounds, [[None]] * many)

    def test_wrong_sharings_at_each_spot(self):
        for sides, width, rounds in SMALL_SHAPES:
            for at, (_, beginning) in enumerate(spots_of(sides, width, rounds)):
                shares = some_side_shares(sides, width, rounds)
                for wrong in ([0] * width, [2] + [0] * (width - 1), [2, -1] + [0] * (width - 2), [(1, width + 1)] * width):
                    if len(wrong) == width:
                        shares[at] = wrong
                        self.raises(BadShare, {"at": beginning}, SidePlan, sides, width, rounds, shares)
                for many in (0, width - 1, width + 1):
                    shares[at] = [None] * many
                    self.raises(BadSize, {"found": many, "due": width}, SidePlan, sides, width, rounds, shares)
                shares[at] = [0] * (width - 1) + [None]
                self.raises(BadNumber, {}, SidePlan, sides, width, rounds, shares)
        shares = some_side_shares(2, 2, 2)
        shares[3], shares[4] = [1, 1], [None, 1]
        self.raises(BadShare, {"at": "1"}, SidePlan, 2, 2, 2, shares)
        for wrong in NOT_NUMBERS:
            self.raises(BadNumber, {}, SidePlan, 2, 2, 1, [[1, 0], [wrong, 0]])

    def test_a_wrong_side_ahead_of_a_wrong_beginning(self):
        plan = some_side_plan(2, 2, 2)
        for wrong in ("", "aaa", "c", "ac", "ca", "0", "A", " ", "a ", "x" * 99):
            for beginning in ("", "0", "00", "x"):
                self.raises(BadRow, {"found": wrong}, plan, wrong, beginning)
        for side, beginnings in (("a", ["0", "00", "x", "2"]), ("ab", ["", "00", "2", "x", "0 ", " "])):
            for beginning in beginnings:
                self.raises(BadRow, {"found": beginning}, plan, side, beginning)

    def test_0_rounds(self):
        for sides, width in MOST:
            plan = SidePlan(sides, width, 0, [])
            self.same(plan.shares, [])
            for side in ("", "a", "b", "x"):
                self.raises(BadRow, {"found": side}, plan, side, "")
            self.same(side_misses(plan, "", ""), (0, 1))
            self.same(side_table(plan, "") == flat(width, 0, 0), True)
            self.same(unsided(plan, "") == even_plan(width, 0), True)

    def test_misses(self):
        for sides, width, rounds in SHAPES:
            plan = some_side_plan(sides, width, rounds, 2)
            for side in side_texts(sides, rounds)[::5]:
                row_misses = [misses_by_hand(plan, side, row) for row in texts(width, rounds)[:40]]
                table = side_table(plan, side)
                self.same((table.width, table.rounds), (width, rounds))
                self.same(table.cells[:40], pairs(row_misses))
                self.same([side_misses(plan, side, row) for row in texts(width, rounds)[:40]], pairs(row_misses))
                chooser = unsided(plan, side)
                self.assertIs(type(chooser), Plan)
                for b in inner_texts(width, rounds)[:40]:
                    self.same(chooser(b), plan(side[:len(b) + 1], b))

    def test_wrong_side_rows_and_rows(self):
        for sides, width, rounds in SHAPES:
            plan = some_side_plan(sides, width, rounds)
            for wrong in ["a" * (rounds + 1), "abcd"[sides] * rounds, "0" * rounds, "a" * 99, "A" * rounds]:
                if wrong not in side_texts(sides, rounds):
                    self.raises(BadRow, {"found": wrong}, side_misses, plan, wrong, "x")
                    self.raises(BadRow, {"found": wrong}, side_misses, plan, wrong, "0" * rounds)
                    self.raises(BadRow, {"found": wrong}, side_table, plan, wrong)
                    self.raises(BadRow, {"found": wrong}, unsided, plan, wrong)
            for wrong in [*wrong_texts(width), "0" * (rounds + 1)] + ["0" * (rounds - 1)] * (rounds > 0):
                if wrong not in texts(width, rounds):
                    self.raises(BadRow, {"found": wrong}, side_misses, plan, "a" * rounds, wrong)


class Folds(Case):
    def test_folds_keepers_and_callers(self):
        for sides, width, rounds in SHAPES:
            sided = some_sided(sides, width, rounds, 2)
            quiet, told = folds_by_hand(sided)
            self.same(sided_fold(sided), pair(quiet[("", "")]))
            keeper = sided_keeper(sided)
            self.assertIs(type(keeper), SidePlan)
            self.same((keeper.sides, keeper.width, keeper.rounds), (sides, width, rounds))
            self.same(keeper.shares, [tuple(pairs(told[spot][1])) for spot in spots_of(sides, width, rounds)])
            caller = sided_caller(sided)
            self.same((type(caller), type(caller[0]), type(caller[1])), (tuple, str, Plan))
            calls, sharings = {}, []
            for b in inner_texts(width, rounds):
                side = "".join(calls[b[:at]] for at in range(len(b)))
                calls[b] = min("abc"[:sides], key=lambda letter: told[(side + letter, b)][0])
                sharings.append(tuple(pairs(told[(side + calls[b], b)][3])))
            self.same(caller[0], "".join(calls[b] for b in inner_texts(width, rounds)))
            self.same(caller[1].shares, sharings)

    def test_what_keeper_and_caller_reach(self):
        for sides, width, rounds in SHAPES:
            if sides ** rounds * width ** rounds <= 64:
                sided = some_sided(sides, width, rounds, 3)
                fold = value_of(sided_fold(sided))
                self.assertEqual(slack_by_hand(sided_keeper(sided), sided), fold)
                self.same(sided_slack(sided_keeper(sided), sided), pair(fold))
                calls, foe = sided_caller(sided)
                self.assertEqual(lowest_misses(foe), mean_by_hand(sided, calls, foe) - fold)

    def test_equal_tables(self):
        for sides, width, rounds in SHAPES:
            table = Table(width, rounds, some_numbers(width ** rounds, 3))
            sided = same_sided(sides, table)
            self.same(sided_fold(sided), wide_fold(table))
            self.same(ahead_fold(sided), wide_fold(table))
            calls, _ = sided_caller(sided)
            self.same(calls, "a" * len(inner_texts(width, rounds)))
            for side in side_texts(sides, rounds)[:3]:
                self.same(unsided(sided_keeper(sided), side) == wide_keeper(table), True)

    def test_the_ahead_fold(self):
        for sides, width, rounds in SHAPES:
            sided = some_sided(sides, width, rounds, 4)
            ahead = min(value_of(wide_fold(table)) for table in sided.tables)
            self.same(ahead_fold(sided), pair(ahead))
            self.assertLessEqual(value_of(sided_fold(sided)), ahead)
            if sides == 1 or rounds == 0:
                self.same(sided_fold(sided), pair(ahead))

    def test_a_sided_fold_below_the_ahead_fold(self):
        # The second letter tells which outcome comes in the first round, which it does too late.
        low, high = Table(2, 2, [0, 0, 9, 9]), Table(2, 2, [9, 9, 0, 0])
        sided = Sided(2, 2, 2, [low, high, low, high])
        self.same((ahead_fold(sided), sided_fold(sided)), ((-1, 2), (-1, 1)))
        told = Sided(2, 2, 2, [low, low, high, high])
        self.same((ahead_fold(told), sided_fold(told)), ((-1, 2), (-1, 2)))

    def test_by_hand(self):
        sided = Sided(2, 2, 1, [Table(2, 1, [0, 0]), Table(2, 1, [-1, 5])])
        self.same(sided_fold(sided), (-1, 1))
        self.same(sided_keeper(sided).shares, [((1, 2), (1, 2)), ((1, 1), (0, 1))])
        calls, foe = sided_caller(sided)
        self.same((calls, foe.shares), ("b", [((1, 1), (0, 1))]))
        sided = Sided(3, 2, 1, [Table(2, 1, [1, 1]), Table(2, 1, [0, 0]), Table(2, 1, [0, 0])])
        self.same((sided_fold(sided), sided_caller(sided)[0]), ((-1, 2), "b"))
        sided = Sided(3, 4, 0, [flat(4, 0, (2, 6))])
        self.same((sided_fold(sided), ahead_fold(sided), sided_keeper(sided).shares), ((1, 3), (1, 3), []))
        calls, foe = sided_caller(sided)
        self.same((calls, foe == even_plan(4, 0)), ("", True))


class SideRowOf(Case):
    def test_the_letters_along_a_row(self):
        for (sides, width), most in MOST.items():
            for rounds in range(most + 1):
                inner = inner_texts(width, rounds)
                calls = "".join("abc"[(at * at + at // 2) % sides] for at in range(len(inner)))
                for row in texts(width, rounds)[::7]:
                    self.same(side_row_of(calls, row, sides=sides, width=width), side_of(calls, row, width))
        self.same(side_row_of("abb", "01"), "ab")
        self.same(side_row_of("aba", "01"), "ab")
        self.same(side_row_of("aba", "10"), "aa")
        self.same(side_row_of("", ""), "")

    def test_a_wrong_row_ahead_of_wrong_calls(self):
        for (sides, width), most in MOST.items():
            for row in [*wrong_texts(width), "0" * (most + 1), "0" * 99]:
                if row not in all_texts(width, most):
                    for calls in ("", "a", "x", "a" * len(inner_texts(width, most))):
                        told = {"found": row}
                        self.raises(BadRow, told, side_row_of, calls, row, sides=sides, width=width)

    def test_wrong_calls(self):
        for (sides, width), most in MOST.items():
            for rounds in (0, 1, most):
                due = len(inner_texts(width, rounds))
                for calls in ("a" * (due + 1), "a" * max(due - 1, 0), "0" * due, "abcd"[sides] * due, "A" * due, "a " * due):
                    if calls != "a" * due:
                        told = {"found": calls}
                        self.raises(BadRow, told, side_row_of, calls, "0" * rounds, sides=sides, width=width)


class Papers(Case):
    def test_the_paper_returned(self):
        for sides, width, rounds in SHAPES:
            sided = some_sided(sides, width, rounds, 5)
            paper = sided_paper(sided)
            self.same((type(paper), len(paper), paper[0]), (tuple, 4, sided_fold(sided)))
            calls, foe = sided_caller(sided)
            self.same((paper[1] == sided_keeper(sided), paper[2], paper[3] == foe), (True, calls, True))
            self.same(is_sided_paper(sided, paper), True)

    def test_numbers_beside_the_fold(self):
        for shape in SMALL_SHAPES:
            sided = some_sided(*shape, 5)
            number, plan, calls, foe = sided_paper(sided)
            for wrong in (value_of(number) + SMALL, value_of(number) - SMALL, 0):
                self.same(is_sided_paper(sided, (pair(wrong), plan, calls, foe)), wrong == value_of(number))
            above, below = number
            self.same(is_sided_paper(sided, ((above * 3, below * 3), plan, calls, foe)), True)

    def test_papers_by_their_two_conditions(self):
        for sides, width, rounds in SMALL_SHAPES:
            sided = some_sided(sides, width, rounds, 6)
            number, keeper, told, foe = sided_paper(sided)
            others = ["a" * len(told), "abc"[sides - 1] * len(told)]
            for plan in (keeper, some_side_plan(sides, width, rounds)):
                for calls in [told, *others]:
                    for other in (foe, even_plan(width, rounds), sure_plan(width, "0" * rounds)):
                        slack = slack_by_hand(plan, sided)
                        worth = mean_by_hand(sided, calls, other) - lowest_misses(other)
                        for value in (value_of(number), slack, worth):
                            expected = slack >= value >= worth
                            self.same(is_sided_paper(sided, (pair(value), plan, calls, other)), expected)

    def test_other_papers_are_right_too(self):
        sided = same_sided(2, flat(2, 1, 0))
        for calls in ("a", "b"):
            self.same(is_sided_paper(sided, ((-1, 2), even_side_plan(2, 2, 1), calls, even_plan(2, 1))), True)
        self.same(is_sided_paper(sided, ((-1, 2), even_side_plan(2, 2, 1), "a", sure_plan(2, "0"))), False)

    def test_other_sides_other_shapes_and_texts_that_cannot_be_calls(self):
        sided = some_sided(2, 2, 2)
        number, plan, calls, foe = sided_paper(sided)
        for shape in SHAPES:
            if shape != (2, 2, 2):
                self.same(is_sided_paper(sided, (number, even_side_plan(*shape), calls, foe)), False)
            if shape[1:] != (2, 2):
                self.same(is_sided_paper(sided, (number, plan, calls, even_plan(*shape[1:]))), False)
        for wrong in ("", "aa", "aaaa", "aac", "000", "aa ", "AAA", "x" * 99):
            self.same(is_sided_paper(sided, (number, plan, wrong, foe)), False)

    def test_values_that_are_no_numbers(self):
        sided = some_sided(2, 2, 2)
        _, plan, calls, foe = sided_paper(sided)
        for wrong in NOT_NUMBERS:
            self.raises(BadNumber, {}, is_sided_paper, sided, (wrong, plan, calls, foe))
            self.raises(BadNumber, {}, is_sided_paper, sided, (wrong, even_side_plan(1, 1, 1), "x", even_plan(1, 0)))

    def test_slacks(self):
        for shape in SMALL_SHAPES:
            sided, plan = some_sided(*shape, 7), some_side_plan(*shape, 3)
            self.same(sided_slack(plan, sided), pair(slack_by_hand(plan, sided)))
        for shape in SHAPES:
            if shape != (2, 2, 2):
                self.raises(Mismatch, {}, sided_slack, even_side_plan(*shape), some_sided(2, 2, 2))


class Helpers(Case):
    def test_the_best_table(self):
        for sides, width, rounds in SHAPES:
            if sides ** rounds * width ** rounds <= 256:
                helpers = [some_side_plan(sides, width, rounds, seed) for seed in (1, 4, 6)]
                sided = sided_best(tuple(helpers))
                self.assertIs(type(sided), Sided)
                self.same((sided.sides, sided.width, sided.rounds), (sides, width, rounds))
                for side, table in list(zip(side_texts(sides, rounds), sided.tables))[::5]:
                    for row in texts(width, rounds)[::5]:
                        least = min(misses_by_hand(helper, side, row) for helper in helpers)
                        self.same(table(row), pair(least))
                self.same(sided_distance(helpers), pair(-value_of(sided_fold(sided))))
                self.assertGreaterEqual(value_of(sided_distance(helpers)), 0)

    def test_one_helper(self):
        for sides, width, rounds in SHAPES:
            helper = some_side_plan(sides, width, rounds, 8)
            for helpers in ([helper], [helper] * 5):
                self.same(sided_distance(helpers), (0, 1))
                self.same(sided_keeper(sided_best(helpers)) == helper, True)

    def test_by_hand(self):
        first = SidePlan(2, 2, 1, [[1, 0], [0, 1]])
        second = SidePlan(2, 2, 1, [[0, 1], [0, 1]])
        self.same(sided_distance([first, second]), (1, 2))
        table = sided_best([first, second])
        self.same([other.cells for other in table.tables], [pairs([0, 0]), pairs([1, 0])])
        self.same(sided_best([first]).tables[0] == misses_table(sure_plan(2, "0")), True)
        self.same(misses_on(unsided(first, "b"), "0"), Fraction(1))

    def test_wrong_lists(self):
        for call in (sided_best, sided_distance):
            self.raises(NoHelper, {}, call, [])
            self.raises(NoHelper, {}, call, ())
            for many in (6, 600):
                helpers = [even_side_plan(2, 2, 1), even_side_plan(3, 2, 1)] * (many // 2)
                self.raises(BadCount, {"found": many, "low": 1, "high": 5}, call, helpers)
            for at in range(5):
                for shape in ((1, 2, 2), (3, 2, 2), (2, 1, 2), (2, 3, 2), (2, 2, 1), (2, 2, 3)):
                    helpers = [even_side_plan(2, 2, 2)] * 5
                    helpers[at] = even_side_plan(*shape)
                    self.raises(Mismatch, {}, call, helpers)
            self.raises(Mismatch, {}, call, [SidePlan(1, 2, 0, []), SidePlan(2, 2, 0, [])])


if __name__ == "__main__":
    unittest.main()
