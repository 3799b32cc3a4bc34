"""Points 65 and 66, and the section notbehind/changes.py."""

import unittest
from fractions import Fraction

from model import misses_on, wide_folds
from notbehind.changes import Folded, put_in, rest_chooser, still_behind, taken_out
from notbehind.errors import BadCount, BadNumber, BadRow, Mismatch, NoHelper, NothingToTakeBack
from notbehind.filling import wide_behind
from notbehind.helpers import best_table, distance, nearest_chooser
from notbehind.plans import behind_plan, even_plan, sure_plan
from notbehind.tables import Table, changed, flat
from samples import some_helpers, some_table
from support import (
    EDGE_SHAPES, HUGE, NOT_NUMBERS, SHAPES, SMALL_SHAPES, Case, all_texts, pair, texts, value_of, wrong_counts,
    wrong_texts,
)


def state(folded):
    beginnings = all_texts(folded.width, folded.rounds)
    return (
        folded.width, folded.rounds, folded.table.cells, folded.fold, folded.changes, folded.moved(),
        [folded.behind(b) for b in beginnings],
    )


class FoldedCase(Case):
    def stands(self, folded, table, changes, former):
        """The Folded has the table and its folds, which have moved where they differ from those of the former table."""
        beginnings = all_texts(table.width, table.rounds)
        folds, before = wide_folds(table), wide_folds(former)
        self.same((folded.width, folded.rounds, folded.changes), (table.width, table.rounds, changes))
        self.same((type(folded.table) is Table, folded.table == table), (True, True))
        self.same(folded.fold, pair(folds[""]))
        self.same([folded.behind(b) for b in beginnings], [pair(folds[b]) for b in beginnings])
        self.same(folded.moved(), [b for b in beginnings if folds[b] != before[b]])
        fresh = Folded(table)
        self.same([fresh.behind(b) for b in beginnings], [folded.behind(b) for b in beginnings])

    def refuses(self, error, told, folded, call, *args):
        before = state(folded)
        self.raises(error, told, call, *args)
        self.same(state(folded), before)


class Changes(FoldedCase):
    def test_new_objects(self):
        for width, rounds in SHAPES:
            table = some_table(width, rounds)
            self.stands(Folded(table), table, 0, table)

    def test_changes_and_taking_back(self):
        for width, rounds in SHAPES:
            tables = [some_table(width, rounds)]
            folded, rows = Folded(tables[0]), []
            for at in range(4):
                row = texts(width, rounds)[at * 7 % width ** rounds]
                number = [(5, 3), -9, (4, 2), 40][at]
                tables.append(changed(tables[-1], row, number))
                rows.append(row)
                self.same(folded.change(row, number), folded.fold)
                self.stands(folded, tables[-1], at + 1, tables[-2])
            while rows:
                self.same(folded.take_back(), rows.pop())
                former = tables.pop()
                self.stands(folded, tables[-1], len(rows), former)
            self.refuses(NothingToTakeBack, {}, folded, folded.take_back)

    def test_only_folds_behind_beginnings_of_the_row_move(self):
        for width, rounds in SMALL_SHAPES:
            for row in texts(width, rounds):
                folded = Folded(some_table(width, rounds, 2))
                folded.change(row, pair(value_of(folded.table(row)) - Fraction(1, HUGE)))
                self.assertLessEqual(set(folded.moved()), {row[:at] for at in range(rounds + 1)})
                self.same(folded.moved()[-1], row)

    def test_a_change_to_the_same_value_counts(self):
        folded = Folded(flat(2, 2, (1, 2)))
        self.same(folded.change("01", (2, 4)), (-1, 2))
        self.same((folded.changes, folded.moved()), (1, []))
        self.same(folded.change("01", 9), folded.fold)
        self.same(folded.moved(), ["", "0", "01"])
        self.same(folded.change("01", (9, 1)), folded.fold)
        self.same((folded.changes, folded.moved()), (3, []))
        self.same([folded.take_back() for _ in range(3)], ["01"] * 3)
        self.same((folded.changes, folded.moved(), folded.table == flat(2, 2, (1, 2))), (0, [], True))

    def test_a_change_that_does_not_reach_the_fold(self):
        folded = Folded(Table(2, 2, [0, 0, 9, 9]))
        folded.change("11", 10)
        self.same(folded.moved(), ["1", "11"])
        folded.take_back()
        self.same(folded.moved(), ["1", "11"])

    def test_by_hand(self):
        folded = Folded(Table(2, 1, [0, 1]))
        self.same((folded.fold, folded.behind(""), folded.behind("1")), ((0, 1), (0, 1), (1, 1)))
        self.same(folded.change("1", 0), (-1, 2))
        self.same((folded.table.cells, folded.moved()), ([(0, 1), (0, 1)], ["", "1"]))
        self.same(folded.change("0", 7), (0, 1))
        self.same(folded.take_back(), "0")
        self.same((folded.fold, folded.changes), ((-1, 2), 1))
        folded = Folded(flat(3, 0, 2))
        self.same(folded.change("", (2, 6)), (1, 3))
        self.same((folded.fold, folded.moved(), folded.take_back(), folded.fold), ((1, 3), [""], "", (2, 1)))

    def test_refused_calls_change_nothing(self):
        for width, rounds in EDGE_SHAPES:
            folded = Folded(some_table(width, rounds))
            folded.change("0" * rounds, 77)
            wrong_rows = [*wrong_texts(width), "0" * (rounds + 1)] + ["0" * (rounds - 1)] * (rounds > 0)
            for row in wrong_rows:
                if row not in texts(width, rounds):
                    self.refuses(BadRow, {"found": row}, folded, folded.change, row, 1)
                    self.refuses(BadRow, {"found": row}, folded, folded.change, row, None)
                if row not in all_texts(width, rounds):
                    self.refuses(BadRow, {"found": row}, folded, folded.behind, row)
            for wrong in NOT_NUMBERS:
                self.refuses(BadNumber, {}, folded, folded.change, "0" * rounds, wrong)
            folded.take_back()
            self.refuses(NothingToTakeBack, {}, folded, folded.take_back)

    def test_moved_behind_refused_calls(self):
        folded = Folded(Table(2, 1, [0, 1]))
        self.refuses(NothingToTakeBack, {}, folded, folded.take_back)
        self.same(folded.moved(), [])
        folded.change("1", 0)
        self.refuses(BadRow, {"found": "2"}, folded, folded.change, "2", 5)
        self.refuses(BadNumber, {}, folded, folded.change, "0", True)
        self.same(folded.moved(), ["", "1"])
        folded.take_back()
        self.refuses(NothingToTakeBack, {}, folded, folded.take_back)
        self.same(folded.moved(), ["", "1"])

    def test_the_table_told_stays_as_it_was(self):
        table = Table(2, 1, [0, 1])
        folded = Folded(table)
        told = folded.table
        folded.change("1", 5)
        self.same((table.cells, told.cells), ([(0, 1), (1, 1)], [(0, 1), (1, 1)]))
        self.new_list(folded.moved)


class StillBehind(Case):
    def test_misses_less_the_fold(self):
        for width, rounds in SHAPES:
            for many in (1, 3):
                helpers = some_helpers(width, rounds, many)
                folds = wide_folds(best_table(helpers))
                for b in all_texts(width, rounds)[::37]:
                    for misses in (0, (7, 3), -2, (4, 2)):
                        self.same(still_behind(tuple(helpers), b, misses), pair(value_of(misses) - folds[b]))
                self.same(still_behind(helpers, "", 0), distance(helpers))

    def test_the_nearest_chooser_stays_within_the_distance(self):
        for width, rounds in SHAPES:
            helpers = some_helpers(width, rounds, 3, 2)
            chooser = nearest_chooser(helpers)
            for b in all_texts(width, rounds)[::5]:
                found = still_behind(helpers, b, pair(misses_on(chooser, b)))
                self.assertLessEqual(value_of(found), value_of(distance(helpers)))

    def test_helpers_that_come_and_go(self):
        for width, rounds in SMALL_SHAPES:
            helpers = some_helpers(width, rounds, 4, 3)
            for b in all_texts(width, rounds):
                found = [value_of(still_behind(helpers[:many], b, (1, 3))) for many in range(1, 5)]
                self.assertEqual(found, sorted(found))

    def test_errors_in_their_order(self):
        helpers = some_helpers(2, 2, 2)
        for b in ("x", "000", "0"):
            for misses in (None, 1):
                self.raises(NoHelper, {}, still_behind, [], b, misses)
                self.raises(BadCount, {"found": 6, "low": 1, "high": 5}, still_behind, helpers * 3, b, misses)
                self.raises(Mismatch, {}, still_behind, helpers + [even_plan(2, 1)], b, misses)
        for b in [*wrong_texts(2), "000", "0" * 99]:
            if b not in all_texts(2, 2):
                self.raises(BadRow, {"found": b}, still_behind, helpers, b, None)
                self.raises(BadRow, {"found": b}, rest_chooser, helpers, b)
        for wrong in NOT_NUMBERS:
            self.raises(BadNumber, {}, still_behind, helpers, "01", wrong)
        self.raises(NoHelper, {}, rest_chooser, [], "x")
        self.raises(Mismatch, {}, rest_chooser, helpers + [even_plan(3, 2)], "x")

    def test_the_rest_of_the_nearest_chooser(self):
        for width, rounds in SHAPES:
            helpers = some_helpers(width, rounds, 3, 2)
            chooser, table = nearest_chooser(helpers), best_table(helpers)
            for b in all_texts(width, rounds)[::37]:
                rest = rest_chooser(tuple(helpers), b)
                self.same((rest.width, rest.rounds), (width, rounds - len(b)))
                self.same(rest == behind_plan(chooser, b), True)
                least = min(value_of(table(b + row)) - misses_on(rest, row) for row in texts(width, rounds - len(b)))
                self.same(wide_behind(table, b), pair(least))


class Lists(Case):
    def test_put_in(self):
        helpers, newcomer = some_helpers(2, 2, 3), even_plan(2, 2)
        for at in range(4):
            found = put_in(helpers, newcomer, at=at)
            self.assertIs(type(found), list)
            due = helpers[:at] + [newcomer] + helpers[at:]
            self.same([plan == other for plan, other in zip(found, due)], [True] * 4)
            self.same(len(put_in(tuple(helpers), newcomer, at=at)), 4)
        self.same(put_in(helpers, newcomer)[0] == newcomer, True)
        self.assertEqual(len(helpers), 3)
        self.same(len(put_in(helpers[:1] * 4, newcomer, at=4)), 5)

    def test_wrong_newcomers_indexes_and_lengths(self):
        for many in range(1, 6):
            helpers = [even_plan(2, 2)] * many
            for wrong in wrong_counts(0, many):
                self.raises(BadCount, {"found": wrong, "low": 0, "high": many}, put_in, helpers, even_plan(2, 2), at=wrong)
                for shape in SHAPES:
                    if shape != (2, 2):
                        self.raises(Mismatch, {}, put_in, helpers, even_plan(*shape), at=wrong)
        for at in range(6):
            told = {"found": 6, "low": 1, "high": 5}
            self.raises(BadCount, told, put_in, [even_plan(2, 2)] * 5, even_plan(2, 2), at=at)
        self.raises(Mismatch, {}, put_in, [even_plan(2, 2)] * 5, even_plan(3, 2))
        self.raises(NoHelper, {}, put_in, [], even_plan(2, 2), at=9)
        self.raises(BadCount, {"found": 6, "low": 1, "high": 5}, put_in, [even_plan(2, 2)] * 6, even_plan(3, 2), at=9)
        self.raises(Mismatch, {}, put_in, [even_plan(2, 2), even_plan(2, 1)], even_plan(2, 2), at=9)

    def test_taken_out(self):
        for many in range(2, 6):
            helpers = some_helpers(2, 2, many)
            for at in range(many):
                for passed in (helpers, tuple(helpers)):
                    found = taken_out(passed, at)
                    self.assertIs(type(found), list)
                    due = helpers[:at] + helpers[at + 1:]
                    self.same([plan == other for plan, other in zip(found, due)], [True] * (many - 1))
                    self.same(len(found), many - 1)
            self.assertEqual(len(helpers), many)

    def test_wrong_indexes_and_the_only_helper(self):
        for many in range(1, 6):
            for wrong in wrong_counts(0, many - 1):
                told = {"found": wrong, "low": 0, "high": many - 1}
                self.raises(BadCount, told, taken_out, [even_plan(2, 2)] * many, wrong)
        self.raises(NoHelper, {}, taken_out, [even_plan(2, 2)], 0)
        self.raises(NoHelper, {}, taken_out, [], 9)
        self.raises(BadCount, {"found": 6, "low": 1, "high": 5}, taken_out, [even_plan(2, 2)] * 6, 9)
        self.raises(Mismatch, {}, taken_out, [sure_plan(2, "0"), even_plan(2, 2)], 9)


if __name__ == "__main__":
    unittest.main()
