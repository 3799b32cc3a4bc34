"""Points 50 to 52, and the section notbehind/horizons.py."""

import unittest
from fractions import Fraction

from model import cells_by_row, misses_on
from notbehind.errors import BadCount, BadRow, BadSize, Mismatch, NoHelper
from notbehind.filling import wide_breaker, wide_fold, wide_keeper
from notbehind.helpers import best_table, distance, farthest, hard_foe, nearest_chooser
from notbehind.horizons import (
    anew, cut_row, doubling_lengths, joined, joined_all, restart_best, restart_chooser, restart_distance, restart_foe,
    stretch_misses, stretched,
)
from notbehind.misses import least_misses, mean_under, row_misses
from notbehind.plans import Plan, behind_plan, even_plan, ones_plan, sure_plan
from notbehind.tables import Table, flat
from samples import some_helpers, some_plan, some_table
from support import (
    HUGE, MOST_ROUNDS, SHAPES, Case, inner_texts, pair, pairs, texts, value_of, wrong_counts, wrong_texts,
)

RESTARTS = [restart_best, restart_distance, restart_chooser, restart_foe]


def cuts(rounds, many):
    """All lists of so many lengths with the sum rounds."""
    if many == 0:
        return [[]] if rounds == 0 else []
    return [[first, *rest] for first in range(rounds + 1) for rest in cuts(rounds - first, many - 1)]


def cell_by_hand(tables, row):
    """The sum of the cells of the tables, each at its part of the row."""
    found, at = Fraction(0), 0
    for table in tables:
        found += value_of(table(row[at:at + table.rounds]))
        at += table.rounds
    return found


def pairs_of_rounds(width):
    most = MOST_ROUNDS[width]
    return [(first, second) for first in range(most + 1) for second in range(most + 1 - first)]


class Joined(Case):
    def test_cells(self):
        for width in MOST_ROUNDS:
            for rounds in pairs_of_rounds(width):
                first, second = some_table(width, rounds[0]), some_table(width, rounds[1], 2)
                table = joined(first, second)
                self.assertIs(type(table), Table)
                self.same((table.width, table.rounds), (width, sum(rounds)))
                expected = [cell_by_hand([first, second], row) for row in texts(width, sum(rounds))]
                self.same(table.cells, pairs(expected))

    def test_by_hand(self):
        self.same(joined(Table(2, 1, [0, 1]), Table(2, 1, [10, 20])).cells, pairs([10, 20, 11, 21]))
        table = Table(2, 1, [0, 1])
        self.same(joined(flat(2, 0, (1, 2)), table).cells, [(1, 2), (3, 2)])
        self.same(joined(table, flat(2, 0, (1, 2))).cells, [(1, 2), (3, 2)])
        self.same(joined(flat(5, 0, 1), flat(5, 0, 2)).cells, [(3, 1)])

    def test_folds_keepers_and_breakers(self):
        for width in MOST_ROUNDS:
            for rounds in pairs_of_rounds(width)[::3]:
                first, second = some_table(width, rounds[0], 3), some_table(width, rounds[1], 4)
                table = joined(first, second)
                self.same(wide_fold(table), pair(value_of(wide_fold(first)) + value_of(wide_fold(second))))
                self.same(wide_keeper(table) == wide_keeper(first) + wide_keeper(second), True)
                self.same(wide_breaker(table) == wide_breaker(first) + wide_breaker(second), True)

    def test_unlike_widths_go_before_too_many_rounds(self):
        for first, second in (((2, 8), (1, 8)), ((3, 1), (2, 1)), ((5, 3), (4, 4)), ((2, 0), (3, 0))):
            self.raises(Mismatch, {}, joined, flat(*first, 0), flat(*second, 0))

    def test_too_many_rounds(self):
        for width, most in MOST_ROUNDS.items():
            for first, second in ((most, 1), (1, most), (most, most)):
                told = {"found": first + second, "low": 0, "high": most}
                self.raises(BadCount, told, joined, flat(width, first, 0), flat(width, second, 0))


class JoinedAll(Case):
    def test_lists_of_each_length(self):
        for width in MOST_ROUNDS:
            for lengths in cuts(MOST_ROUNDS[width], 3)[::2] + [[1], [0], [0, 0, 1, 0]]:
                tables = [some_table(width, rounds, seed) for seed, rounds in enumerate(lengths)]
                table = joined_all(tuple(tables))
                self.same((table.width, table.rounds), (width, sum(lengths)))
                self.same(table.cells, pairs([cell_by_hand(tables, row) for row in texts(width, sum(lengths))]))
        self.same(joined_all([some_table(2, 3)]) == some_table(2, 3), True)
        self.same(joined_all([flat(2, 0, 1)] * 600).cells, [(600, 1)])

    def test_no_tables(self):
        self.raises(BadSize, {"found": 0, "due": 1}, joined_all, [])
        self.raises(BadSize, {"found": 0, "due": 1}, joined_all, ())

    def test_unlike_widths_at_each_place_go_before_too_many_rounds(self):
        for at in range(1, 4):
            tables = [flat(2, 8, 0)] * 4
            tables[at] = flat(1, 8, 0)
            self.raises(Mismatch, {}, joined_all, tables)
            self.raises(Mismatch, {}, joined_all, tables[:at + 1])

    def test_the_rounds_of_all_tables_count(self):
        self.raises(BadCount, {"found": 24, "low": 0, "high": 8}, joined_all, [flat(2, 8, 0)] * 3)
        self.raises(BadCount, {"found": 9, "low": 0, "high": 8}, joined_all, [flat(2, 4, 0), flat(2, 4, 0), flat(2, 1, 0)])
        self.raises(BadCount, {"found": 600, "low": 0, "high": 3}, joined_all, [flat(5, 1, 0)] * 600)

    def test_the_list_stays_as_it_was(self):
        tables = [flat(2, 1, 0), flat(2, 1, 1)]
        joined_all(tables)
        self.assertEqual(len(tables), 2)


class Stretched(Case):
    def test_cells(self):
        for width, rounds in SHAPES:
            table = some_table(width, rounds)
            for more in range(rounds, MOST_ROUNDS[width] + 1):
                found = stretched(table, more)
                self.assertIs(type(found), Table)
                self.same((found.width, found.rounds), (width, more))
                self.same(found.cells, [table(row[:rounds]) for row in texts(width, more)])
            self.same(stretched(table, rounds) == table, True)

    def test_wrong_rounds(self):
        for width, rounds in SHAPES:
            for wrong in [*wrong_counts(rounds, MOST_ROUNDS[width]), 0]:
                if isinstance(wrong, bool) or wrong != rounds:
                    told = {"found": wrong, "low": rounds, "high": MOST_ROUNDS[width]}
                    self.raises(BadCount, told, stretched, flat(width, rounds, 0), wrong)


class Cut(Case):
    def test_rows(self):
        self.same(cut_row("01101", [2, 0, 3]), ["01", "", "101"])
        self.same(cut_row("01101", (0, 5, 0)), ["", "01101", ""])
        self.same(cut_row("01101", [1] * 5), ["0", "1", "1", "0", "1"])
        self.same(cut_row("", []), [])
        self.same(cut_row("", [0, 0]), ["", ""])
        self.same(cut_row("01234567", [8]), ["01234567"])
        for rounds in range(9):
            row = "01101001"[:rounds]
            for lengths in cuts(rounds, 3):
                found = cut_row(row, lengths)
                self.same("".join(found), row)
                self.same([len(part) for part in found], lengths)

    def test_any_text_may_be_cut(self):
        self.same(cut_row("ab c~-/9", [3, 0, 5]), ["ab ", "", "c~-/9"])

    def test_sums_that_are_too_small_or_too_great(self):
        for lengths in ([], [1], [2, 0], [4], [2, 2], [8, 8], [3, 1, 0]):
            self.raises(Mismatch, {}, cut_row, "011", lengths)
            self.raises(Mismatch, {}, stretch_misses, even_plan(2, 3), "011", lengths)
            self.raises(Mismatch, {}, anew, even_plan(2, 3), lengths)
        self.raises(Mismatch, {}, cut_row, "", [1])
        self.raises(Mismatch, {}, anew, even_plan(2, 0), [1])

    def test_wrong_items_go_before_a_wrong_sum(self):
        calls = [
            lambda lengths: cut_row("011", lengths), lambda lengths: anew(even_plan(2, 3), lengths),
            lambda lengths: stretch_misses(even_plan(2, 3), "011", lengths),
        ]
        for call in calls:
            for wrong in wrong_counts(0, 8):
                told = {"found": wrong, "low": 0, "high": 8}
                self.raises(BadCount, told, call, [wrong])
                self.raises(BadCount, told, call, [1, 1, 1, wrong])
                self.raises(BadCount, told, call, [8, 8, wrong, -HUGE, True])
            self.raises(BadCount, {"found": -1, "low": 0, "high": 8}, call, [4, -1])
            self.raises(BadCount, {"found": 9, "low": 0, "high": 8}, call, [9, -1])

    def test_lists_are_new_and_lengths_stay(self):
        lengths = [1, 2]
        self.new_list(lambda: cut_row("011", lengths))
        self.new_list(lambda: stretch_misses(even_plan(2, 3), "011", lengths))
        self.new_list(lambda: doubling_lengths(5))
        anew(even_plan(2, 3), lengths)
        self.same(lengths, [1, 2])


class StretchMisses(Case):
    def test_sums(self):
        for width, rounds in SHAPES:
            plan = some_plan(width, rounds)
            for lengths in cuts(rounds, 3)[::3]:
                for row in texts(width, rounds)[::11]:
                    ends = [sum(lengths[:at]) for at in range(4)]
                    expected = [misses_on(plan, row[:b]) - misses_on(plan, row[:a]) for a, b in zip(ends, ends[1:])]
                    self.same(stretch_misses(plan, row, tuple(lengths)), pairs(expected))
        self.same(stretch_misses(even_plan(2, 0), "", []), [])
        self.same(stretch_misses(even_plan(2, 0), "", [0]), [(0, 1)])
        self.same(stretch_misses(sure_plan(2, "000"), "011", [0, 2, 1]), pairs([0, 1, 1]))

    def test_a_wrong_row_goes_before_wrong_lengths(self):
        for width, rounds in SHAPES:
            for row in [*wrong_texts(width), "0" * (rounds + 1)] + ["0" * (rounds - 1)] * (rounds > 0):
                if row not in texts(width, rounds):
                    for lengths in ([rounds], [], [-1], [9, True]):
                        self.raises(BadRow, {"found": row}, stretch_misses, even_plan(width, rounds), row, lengths)


class Doubling(Case):
    def test_each_number_of_rounds(self):
        expected = [[], [1], [1, 1], [1, 2], [1, 2, 1], [1, 2, 2], [1, 2, 3], [1, 2, 4], [1, 2, 4, 1]]
        for rounds, lengths in enumerate(expected):
            self.same(doubling_lengths(rounds), lengths)

    def test_wrong_rounds(self):
        for wrong in wrong_counts(0, 8):
            self.raises(BadCount, {"found": wrong, "low": 0, "high": 8}, doubling_lengths, wrong)


class Anew(Case):
    def test_plans_of_each_shape(self):
        for width, rounds in SHAPES:
            plan = some_plan(width, rounds)
            for lengths in cuts(rounds, 3)[::2]:
                found = anew(plan, tuple(lengths))
                self.assertIs(type(found), Plan)
                self.same((found.width, found.rounds), (width, rounds))
                ends = [sum(lengths[:at]) for at in range(4)]
                for b in inner_texts(width, rounds):
                    self.same(found(b), plan(b[max(end for end in ends if end <= len(b)):]))

    def test_by_hand(self):
        plan = ones_plan(2, [(1, 3), (1, 4), (1, 5)])
        third = ((2, 3), (1, 3))
        self.same(anew(plan, [1, 1]).shares, [third] * 3)
        self.same(anew(plan, [2]) == plan, True)
        for lengths in ([0, 2], [2, 0], [0, 0, 2, 0]):
            self.same(anew(plan, lengths) == plan, True)
        for lengths in ([0, 1, 1], [1, 0, 1], [1, 0, 0, 1, 0]):
            self.same(anew(plan, lengths).shares, [third] * 3)
        self.same(anew(even_plan(2, 0), []) == even_plan(2, 0), True)
        self.same(anew(even_plan(2, 0), [0, 0]) == even_plan(2, 0), True)
        plan = some_plan(2, 3)
        self.same([behind_plan(anew(plan, [1, 2]), b)("1") for b in "01"], [plan("1")] * 2)


def parts_of(width, lengths, seed=1):
    """A restart with stretches of these rounds."""
    return [some_helpers(width, rounds, at % 3 + 1, seed + at) for at, rounds in enumerate(lengths)]


class Restarts(Case):
    def test_restarts_of_each_width(self):
        for width, most in MOST_ROUNDS.items():
            for lengths in cuts(most, 3)[::3] + [[1], [0], [1, 1], [0, 1, 0]]:
                parts = parts_of(width, lengths)
                rounds = sum(lengths)
                table = restart_best(parts)
                self.same((type(table) is Table, table.width, table.rounds), (True, width, rounds))
                bests = [best_table(helpers) for helpers in parts]
                self.same(table.cells, pairs([cell_by_hand(bests, row) for row in texts(width, rounds)]))
                value = sum(value_of(distance(helpers)) for helpers in parts)
                self.same(restart_distance(parts), pair(value))
                self.same(restart_distance(tuple(tuple(helpers) for helpers in parts)), pair(value))
                self.same(value_of(wide_fold(table)), -value)

    def test_choosers_and_foes(self):
        for width, most in MOST_ROUNDS.items():
            for lengths in cuts(most, 2) + [[0], [0, 0], [1, 0, 1]]:
                parts = parts_of(width, lengths, 4)
                chooser, foe, table = restart_chooser(parts), restart_foe(parts), restart_best(parts)
                self.same((type(chooser), type(foe)), (Plan, Plan))
                self.same(chooser == wide_keeper(table), True)
                self.same(foe == wide_breaker(table), True)
                due, other = nearest_chooser(parts[0]), hard_foe(parts[0])
                for helpers in parts[1:]:
                    due, other = due + nearest_chooser(helpers), other + hard_foe(helpers)
                self.same((chooser == due, foe == other), (True, True))

    def test_what_the_distance_means(self):
        parts = [[sure_plan(2, "00"), sure_plan(2, "11")], [sure_plan(2, "0"), sure_plan(2, "1")]]
        self.same(restart_distance(parts), (1, 1))
        self.same(restart_best(parts).cells, pairs([0, 0, 1, 1, 1, 1, 0, 0]))
        chooser, foe, bounds = restart_chooser(parts), restart_foe(parts), cells_by_row(restart_best(parts))
        self.assertEqual(max(value_of(row_misses(chooser, row)) - bound for row, bound in bounds.items()), 1)
        self.assertEqual(value_of(least_misses(foe)) - value_of(mean_under(foe, restart_best(parts))), 1)
        single = parts_of(2, [3])
        self.same(restart_distance(single), distance(single[0]))
        self.same(farthest(restart_chooser(single), single[0])[0], distance(single[0]))

    def test_many_stretches(self):
        parts = [[even_plan(5, 0)]] * 599 + [[even_plan(5, 3)] * 2]
        self.same(restart_distance(parts), (0, 1))
        self.same(restart_chooser(parts) == even_plan(5, 3), True)
        self.same((restart_best(parts).rounds, restart_foe(parts).rounds), (3, 3))

    def test_no_stretch_and_an_empty_one(self):
        for call in RESTARTS:
            self.raises(NoHelper, {}, call, [])
            self.raises(NoHelper, {}, call, ())
            self.raises(NoHelper, {}, call, [[]])
            self.raises(NoHelper, {}, call, [[even_plan(2, 1)], []])

    def test_a_stretch_is_checked_as_a_list_of_helpers(self):
        for call in RESTARTS:
            six = [even_plan(2, 1)] * 6
            self.raises(BadCount, {"found": 6, "low": 1, "high": 5}, call, [six])
            self.raises(BadCount, {"found": 6, "low": 1, "high": 5}, call, [[even_plan(2, 1)], six, []])
            self.raises(Mismatch, {}, call, [[even_plan(2, 1), even_plan(2, 2)]])
            self.raises(Mismatch, {}, call, [[even_plan(2, 1)], [even_plan(2, 1), even_plan(3, 1)]])

    def test_another_width_behind_the_check_of_a_stretch(self):
        for call in RESTARTS:
            self.raises(Mismatch, {}, call, [[even_plan(2, 1)], [even_plan(3, 1)]])
            self.raises(Mismatch, {}, call, [[even_plan(2, 1)], [even_plan(3, 1)], []])
            self.raises(NoHelper, {}, call, [[even_plan(2, 1)], [], [even_plan(3, 1)]])
            self.raises(BadCount, {"found": 7, "low": 1, "high": 5}, call, [[even_plan(2, 1)], [even_plan(3, 1)] * 7])
            self.raises(Mismatch, {}, call, [[even_plan(2, 0)], [even_plan(2, 0)], [even_plan(1, 0)]])

    def test_too_many_rounds_behind_all_stretches(self):
        for call in RESTARTS:
            for width, most in MOST_ROUNDS.items():
                told = {"found": most + 1, "low": 0, "high": most}
                self.raises(BadCount, told, call, [[even_plan(width, most)], [even_plan(width, 1)]])
                self.raises(BadCount, told, call, [[even_plan(width, 1)]] * (most + 1))
            self.raises(Mismatch, {}, call, [[even_plan(2, 8)], [even_plan(2, 8)], [even_plan(3, 1)]])
            self.raises(NoHelper, {}, call, [[even_plan(2, 8)], [even_plan(2, 8)], []])

    def test_lists_stay_as_they_were(self):
        parts = [[even_plan(2, 1)], [even_plan(2, 1), sure_plan(2, "0")]]
        for call in RESTARTS:
            call(parts)
        self.same([len(helpers) for helpers in parts], [1, 2])


if __name__ == "__main__":
    unittest.main()
