"""Points 3 to 5, 15 and 16, and the section notbehind/tables.py."""

import itertools
import unittest
from fractions import Fraction

from notbehind.errors import BadCount, BadNumber, BadRow, BadSize, Mismatch
from notbehind.plans import Plan, even_plan
from notbehind.tables import (
    Table, behind, changed, first_above, flat, greater, highest_rows, is_below, joined_parts, lesser, lowest_rows,
    mean_behind, means, raised, renamed_table,
)
from samples import some_table
from support import (
    EDGE_SHAPES, MOST_ROUNDS, NOT_NUMBERS, SHAPES, SMALL_SHAPES, Case, all_texts, pair, pairs, some_numbers, texts,
    value_of, wrong_texts,
)

LONG = 10 ** 39 + 7


def told(table):
    return [Fraction(*cell) for cell in table.cells]


class Tables(Case):
    def test_every_shape(self):
        for width, rounds in SHAPES:
            cells = some_numbers(width ** rounds)
            expected = [pair(value_of(cell)) for cell in cells]
            for table in (Table(width, rounds, cells), Table(width, rounds, tuple(cells))):
                with self.subTest(width=width, rounds=rounds):
                    self.same((table.width, table.rounds), (width, rounds))
                    self.same(table.cells, expected)
                    self.same(len(table), width ** rounds)
                    self.same([cell for cell in table], expected)
                    self.same([table(row) for row in texts(width, rounds)], expected)

    def test_cells_of_every_form(self):
        table = Table(2, 2, [(2 * LONG, 4 * LONG), -LONG, (0, LONG), (LONG + 1, LONG)])
        self.same(table.cells, [(1, 2), (-LONG, 1), (0, 1), (LONG + 1, LONG)])
        self.same(Table(2, 1, (1, 2)).cells, [(1, 1), (2, 1)])
        self.same(Table(1, 0, [(6, 4)]).cells, [(3, 2)])

    def test_wrong_shapes(self):
        self.wrong_shapes(lambda width, rounds: Table(width, rounds, []))
        self.wrong_shapes(lambda width, rounds: Table(width, rounds, [None]))

    def test_wrong_numbers_of_cells(self):
        for width, rounds in EDGE_SHAPES:
            due = width ** rounds
            for found in {0, due - 1, due + 1, 600} - {due}:
                for cell in (1, None):
                    with self.subTest(width=width, rounds=rounds, found=found):
                        self.raises(BadSize, {"found": found, "due": due}, Table, width, rounds, [cell] * found)

    def test_cells_that_are_no_numbers_at_any_place(self):
        for wrong in NOT_NUMBERS:
            for at in range(4):
                cells = [1, (1, 2), 0, -3]
                cells[at] = wrong
                with self.subTest(wrong=wrong, at=at):
                    self.raises(BadNumber, {}, Table, 2, 2, cells)
            self.raises(BadNumber, {}, Table, 3, 0, [wrong])

    def test_wrong_rows(self):
        for width, rounds in EDGE_SHAPES:
            table = some_table(width, rounds)
            for text in [*wrong_texts(width), "0" * (rounds + 1), "0" * 9, *(["0" * (rounds - 1)] if rounds else [])]:
                if text in texts(width, rounds):
                    continue
                with self.subTest(width=width, rounds=rounds, text=text):
                    self.raises(BadRow, {"found": text}, table, text)
                    self.raises(BadRow, {"found": text}, changed, table, text, 1)
                    self.raises(BadRow, {"found": text}, changed, table, text, None)

    def test_lists_passed_and_returned_are_not_kept(self):
        cells = [1, 2, 3, 4]
        table = Table(2, 2, cells)
        cells[0] = 9
        cells.append(5)
        self.same(table.cells, pairs([1, 2, 3, 4]))
        table.cells.append((7, 1))
        table.cells[0] = (7, 1)
        self.same(table.cells, pairs([1, 2, 3, 4]))
        self.same(list(table), pairs([1, 2, 3, 4]))
        self.new_list(lambda: table.cells)

    def test_a_wrong_call_changes_nothing(self):
        cells = [1, 2, None, 4]
        self.raises(BadNumber, {}, Table, 2, 2, cells)
        self.same(cells, [1, 2, None, 4])


class Equality(Case):
    def test_equal_tables(self):
        for width, rounds in SMALL_SHAPES:
            self.same(some_table(width, rounds) == some_table(width, rounds), True)
        self.same(Table(2, 1, [(2, 4), 3]) == Table(2, 1, ((1, 2), (6, 2))), True)

    def test_tables_that_differ_in_one_cell(self):
        for width, rounds in SMALL_SHAPES:
            table = some_table(width, rounds)
            for at in range(len(table)):
                cells = table.cells
                cells[at] = (cells[at][0] * LONG + 1, cells[at][1] * LONG)
                self.same(table == Table(width, rounds, cells), False)

    def test_other_shapes(self):
        self.same(Table(1, 0, [1]) == Table(2, 0, [1]), False)
        self.same(Table(1, 0, [1]) == Table(1, 1, [1]), False)
        self.same(Table(1, 8, [1]) == Table(1, 7, [1]), False)
        self.same(Table(2, 2, [1] * 4) == Table(4, 1, [1] * 4), False)
        self.same(Table(2, 1, [1] * 2) == Table(2, 2, [1] * 4), False)

    def test_values_of_other_kinds(self):
        table = Table(2, 1, [0, 1])
        for other in [None, True, 0, 1, "table", [], [(0, 1), (1, 1)], ((0, 1), (1, 1)), {}, table.cells, even_plan(2, 1)]:
            self.same(table == other, False)
        self.same(Table(2, 0, [0]) == even_plan(2, 0), False)
        self.same(Table(2, 0, [0]) == 0, False)


class Signs(Case):
    def test_sums_and_differences(self):
        for width, rounds in SHAPES:
            first, second = some_table(width, rounds, 2), some_table(width, rounds, 3)
            with self.subTest(width=width, rounds=rounds):
                sums = [left + right for left, right in zip(told(first), told(second))]
                differences = [left - right for left, right in zip(told(first), told(second))]
                self.assertTrue(first + second == Table(width, rounds, pairs(sums)))
                self.assertTrue(first - second == Table(width, rounds, pairs(differences)))
                self.same((first + second).cells, pairs(sums))
                self.same((first - second).cells, pairs(differences))
                self.assertTrue(first == some_table(width, rounds, 2))
                self.assertTrue(second == some_table(width, rounds, 3))

    def test_products(self):
        for width, rounds in SMALL_SHAPES:
            table = some_table(width, rounds)
            for factor in (0, 1, -1, (1, 2), (-4, 6), (0, 3), LONG, (1, LONG)):
                with self.subTest(width=width, rounds=rounds, factor=factor):
                    product = table * factor
                    self.assertIs(type(product), Table)
                    self.same((product.width, product.rounds), (width, rounds))
                    self.same(product.cells, pairs(cell * value_of(factor) for cell in told(table)))

    def test_unlike_shapes(self):
        for first, second in itertools.permutations([(1, 1), (1, 2), (2, 1), (2, 2), (4, 1)], 2):
            with self.subTest(first=first, second=second):
                left, right = some_table(*first), some_table(*second)
                for call in (lambda: left + right, lambda: left - right):
                    self.raises(Mismatch, {}, call)

    def test_wrong_factors(self):
        table = some_table(2, 1)
        for wrong in [*NOT_NUMBERS, table, even_plan(2, 1)]:
            with self.subTest(wrong=wrong):
                self.raises(BadNumber, {}, lambda: table * wrong)


class MadeTables(Case):
    def test_flat(self):
        for width, rounds in SHAPES:
            for number in (0, (-2, 4)):
                table = flat(width, rounds, number)
                self.same((table.width, table.rounds), (width, rounds))
                self.same(table.cells, [pair(value_of(number))] * width ** rounds)

    def test_flat_with_wrong_arguments(self):
        self.wrong_shapes(lambda width, rounds: flat(width, rounds, 1))
        self.wrong_shapes(lambda width, rounds: flat(width, rounds, None))
        for wrong in NOT_NUMBERS:
            self.raises(BadNumber, {}, flat, 2, 1, wrong)
            self.raises(BadNumber, {}, flat, 1, 0, wrong)

    def test_raised(self):
        for width, rounds in SMALL_SHAPES:
            table = some_table(width, rounds)
            for number in (0, 2, (-3, 9)):
                made = raised(table, number)
                self.same((made.width, made.rounds), (width, rounds))
                self.same(made.cells, pairs(cell + value_of(number) for cell in told(table)))
            self.assertTrue(table == some_table(width, rounds))
        for wrong in NOT_NUMBERS:
            self.raises(BadNumber, {}, raised, some_table(2, 1), wrong)

    def test_changed(self):
        for width, rounds in SMALL_SHAPES:
            table = some_table(width, rounds)
            for at, row in enumerate(texts(width, rounds)):
                made = changed(table, row, (10, 4))
                cells = table.cells
                cells[at] = (5, 2)
                self.same((made.width, made.rounds), (width, rounds))
                self.same(made.cells, cells)
            self.assertTrue(table == some_table(width, rounds))
        for wrong in NOT_NUMBERS:
            self.raises(BadNumber, {}, changed, some_table(2, 1), "0", wrong)
        self.raises(BadRow, {"found": ""}, changed, some_table(2, 1), "", None)

    def test_lesser_and_greater(self):
        for width, rounds in SHAPES:
            first, second = some_table(width, rounds, 2), some_table(width, rounds, 3)
            low = [min(left, right) for left, right in zip(told(first), told(second))]
            high = [max(left, right) for left, right in zip(told(first), told(second))]
            for made, expected in ((lesser(first, second), low), (greater(first, second), high)):
                self.same((made.width, made.rounds), (width, rounds))
                self.same(made.cells, pairs(expected))
        for first, second in [((2, 1), (2, 2)), ((2, 1), (3, 1)), ((2, 0), (3, 0)), ((2, 2), (4, 1)), ((1, 1), (1, 0))]:
            for function in (lesser, greater, first_above, is_below):
                self.raises(Mismatch, {}, function, some_table(*first), some_table(*second))
                self.raises(Mismatch, {}, function, some_table(*second), some_table(*first))

    def test_renamed_table(self):
        for order in ("0", "01", "10", "012", "120", "201", "3012", "1032", "24130", "40123"):
            width = len(order)
            for rounds in range(min(MOST_ROUNDS[width], 3) + 1):
                table = some_table(width, rounds)
                made = renamed_table(order, table)
                self.same((made.width, made.rounds), (width, rounds))
                for row in texts(width, rounds):
                    self.same(made("".join(order[int(letter)] for letter in row)), table(row))

    def test_renamed_table_with_wrong_arguments(self):
        for order, width in [("0", 2), ("10", 1), ("01", 3), ("012", 2), ("01234", 4)]:
            self.raises(Mismatch, {}, renamed_table, order, some_table(width, 1))
            self.raises(Mismatch, {}, renamed_table, order, some_table(width, 0))
        for order in ["", "1", "00", "02", "011", "012345", "a", "0 "]:
            self.raises(BadRow, {"found": order}, renamed_table, order, some_table(2, 1))
            self.raises(BadRow, {"found": order}, renamed_table, order, some_table(len(order) % 5 + 1, 1))


class Means(Case):
    def test_means_of_every_shape(self):
        for width, rounds in SHAPES:
            table = some_table(width, rounds, 5)
            rows = texts(width, rounds)
            expected = []
            for beginning in all_texts(width, rounds):
                cells = [cell for row, cell in zip(rows, told(table)) if row.startswith(beginning)]
                expected.append(pair(sum(cells) / len(cells)))
                self.same(mean_behind(table, beginning), expected[-1])
            self.same(means(table), expected)
            self.new_list(lambda: means(table))

    def test_each_row_counts_once(self):
        table = Table(2, 2, [0, 1, (1, 2), (3, 2)])
        self.same(mean_behind(table, ""), (3, 4))
        self.same(mean_behind(table, "0"), (1, 2))
        self.same(mean_behind(table, "1"), (1, 1))
        self.same(mean_behind(table, "11"), (3, 2))
        self.same(means(table), [(3, 4), (1, 2), (1, 1), (0, 1), (1, 1), (1, 2), (3, 2)])
        self.same(means(Table(3, 0, [7])), [(7, 1)])
        self.same(means(Table(1, 2, [7])), [(7, 1)] * 3)

    def test_parts_of_every_shape(self):
        for width, rounds in SHAPES:
            table = some_table(width, rounds, 6)
            rows = texts(width, rounds)
            for beginning in all_texts(width, rounds):
                part = behind(table, beginning)
                self.assertIs(type(part), Table)
                self.same((part.width, part.rounds), (width, rounds - len(beginning)))
                self.same(part.cells, [table(row) for row in rows if row.startswith(beginning)])

    def test_texts_that_are_no_beginning(self):
        for width, rounds in EDGE_SHAPES:
            table = some_table(width, rounds)
            for text in [*wrong_texts(width), "0" * (rounds + 1), "0" * 100]:
                with self.subTest(width=width, rounds=rounds, text=text[:10]):
                    self.raises(BadRow, {"found": text}, mean_behind, table, text)
                    self.raises(BadRow, {"found": text}, behind, table, text)


class JoinedParts(Case):
    def test_parts_are_put_together(self):
        for width, most in MOST_ROUNDS.items():
            for rounds in range(most):
                parts = [some_table(width, rounds, seed) for seed in range(width)]
                for kept in (parts, tuple(parts)):
                    made = joined_parts(kept)
                    self.same((made.width, made.rounds), (width, rounds + 1))
                    for outcome, part in enumerate(parts):
                        self.assertTrue(behind(made, str(outcome)) == part)
                self.assertEqual(len(parts), width)

    def test_no_parts_and_too_many(self):
        for parts in ([], ()):
            self.raises(BadCount, {"found": 0, "low": 1, "high": 5}, joined_parts, parts)
        for many in (6, 7, 600):
            for width in (1, 5):
                self.raises(BadCount, {"found": many, "low": 1, "high": 5}, joined_parts, [some_table(width, 0)] * many)

    def test_unlike_parts(self):
        for parts in [
            [some_table(2, 0)], [some_table(1, 0)] * 2, [some_table(3, 1)] * 2, [some_table(2, 1), some_table(3, 1)],
            [some_table(3, 1), some_table(2, 1)], [some_table(2, 1), some_table(2, 0)],
            [some_table(2, 0), some_table(2, 1)], [some_table(3, 1), some_table(3, 1), some_table(3, 2)],
            [some_table(3, 1), some_table(3, 1), some_table(2, 1)], [some_table(1, 8), some_table(1, 8)],
            [some_table(2, 8), some_table(2, 7)], [some_table(2, 7), some_table(2, 8)],
        ]:
            with self.subTest(parts=[(part.width, part.rounds) for part in parts]):
                self.raises(Mismatch, {}, joined_parts, parts)

    def test_too_many_rounds(self):
        for width, most in MOST_ROUNDS.items():
            parts = [some_table(width, most)] * width
            self.raises(BadCount, {"found": most + 1, "low": 0, "high": most}, joined_parts, parts)


class Comparing(Case):
    def test_first_above(self):
        for width, rounds in SMALL_SHAPES:
            table = some_table(width, rounds)
            rows = texts(width, rounds)
            self.same(first_above(table, table), None)
            self.same(is_below(table, table), True)
            self.same(first_above(table, raised(table, (1, LONG))), None)
            self.same(is_below(table, raised(table, (1, LONG))), True)
            self.same(first_above(raised(table, (1, LONG)), table), rows[0])
            for row in rows:
                more = changed(table, row, pair(Fraction(*table(row)) + Fraction(1, LONG)))
                self.same(first_above(more, table), row)
                self.same(is_below(more, table), False)
                self.same(first_above(table, more), None)
                self.same(is_below(table, more), True)

    def test_several_rows_above(self):
        table = Table(2, 2, [0, 5, 1, 7])
        self.same(first_above(table, flat(2, 2, 0)), "01")
        self.same(first_above(table, Table(2, 2, [0, 5, 0, 0])), "10")
        self.same(first_above(table, flat(2, 2, -1)), "00")
        self.same(first_above(table, flat(2, 2, 6)), "11")
        self.same(first_above(table, flat(2, 2, 7)), None)

    def test_lowest_and_highest_rows(self):
        for width, rounds in SHAPES:
            table = some_table(width, rounds, 7)
            cells = told(table)
            rows = texts(width, rounds)
            self.same(lowest_rows(table), [row for row, cell in zip(rows, cells) if cell == min(cells)])
            self.same(highest_rows(table), [row for row, cell in zip(rows, cells) if cell == max(cells)])
        table = Table(2, 2, [(1, 2), (2, 4), 3, (6, 2)])
        self.same(lowest_rows(table), ["00", "01"])
        self.same(highest_rows(table), ["10", "11"])
        self.same(lowest_rows(flat(3, 1, 2)), ["0", "1", "2"])
        self.same(highest_rows(flat(3, 0, 2)), [""])
        self.new_list(lambda: lowest_rows(table))
        self.new_list(lambda: highest_rows(table))


class NothingChanges(Case):
    def test_tables_and_lists_passed_stay_as_they_were(self):
        first, second = some_table(2, 2, 1), some_table(2, 2, 2)
        parts = [first, second]
        joined_parts(parts)
        for call in (means, lowest_rows, highest_rows):
            call(first)
        for call in (lesser, greater, first_above, is_below):
            call(first, second)
        behind(first, "0")
        mean_behind(first, "1")
        renamed_table("10", first)
        first * 3
        self.assertTrue(parts == [some_table(2, 2, 1), some_table(2, 2, 2)])
        cells = [(2, 4), 3]
        Table(2, 1, cells)
        self.same(cells, [(2, 4), 3])


class Mixed(Case):
    def test_a_plan_is_no_table(self):
        self.same(Table(1, 1, [0]) == Plan(1, 1, [[1]]), False)


if __name__ == "__main__":
    unittest.main()
