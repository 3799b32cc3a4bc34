"""Points 23 and 26 to 28, and the section notbehind/folding.py."""

import unittest
from fractions import Fraction

from model import chance_of, folds_of, lowest_misses, mean_by, means_of, misses_on, two_step
from notbehind.errors import BadNumber, BadRow, Lacking, Mismatch
from notbehind.exactly import bars
from notbehind.folding import (
    breaker, can_keep, fold, fold_behind, folds, keeper, kept, lack, step, step_chances, step_share,
)
from notbehind.misses import keeps, misses_table
from notbehind.plans import Plan, even_plan, sure_plan
from notbehind.tables import Table, behind, changed, flat, raised
from support import (
    NOT_NUMBERS, Case, all_texts, inner_texts, pair, pairs, some_numbers, some_shares, texts, value_of, wrong_texts,
)

SMALL = Fraction(1, 10 ** 25)
OTHER_WIDTHS = [(1, 0), (1, 1), (1, 8), (3, 0), (3, 1), (3, 2), (4, 1), (5, 0), (5, 3)]
DIFFERENCES = [
    Fraction(0), SMALL, -SMALL, Fraction(1, 2), Fraction(-2, 3), 1 - SMALL, SMALL - 1, Fraction(1), Fraction(-1),
    1 + SMALL, -1 - SMALL, Fraction(3, 2), Fraction(-5, 3), Fraction(40), Fraction(-40),
]


def some_tables(rounds):
    """Tables of all sorts: cells far apart, cells near each other, tables of misses, cells below 0."""
    plan = Plan(2, rounds, some_shares(2, rounds))
    rough = Table(2, rounds, some_numbers(2 ** rounds))
    return [
        rough, rough * (1, 9), rough * (1, 40), misses_table(plan), raised(misses_table(plan), (-1, 3)),
        flat(2, rounds, 1), Table(2, rounds, [at % 3 for at in range(2 ** rounds)]),
    ]


def folds_by_point_26(table):
    return folds_of(table, lambda levels: two_step(*levels)[0])


class Steps(Case):
    def test_the_examples_of_the_document(self):
        self.same(step(2, (1, 2)), (1, 2))
        self.same(step_share(2, 1), (1, 1))
        self.same(folds(Table(2, 1, [0, 1])), [(0, 1), (0, 1), (1, 1)])

    def test_folds_that_differ_by_less_than_1_by_1_and_by_more(self):
        for number in some_numbers(20, 2):
            for difference in DIFFERENCES:
                zero, one = value_of(number), value_of(number) + difference
                told, share, chances = two_step(zero, one)
                with self.subTest(zero=zero, difference=difference):
                    self.same(step(number, pair(one)), pair(told))
                    self.same(step_share(number, pair(one)), pair(share))
                    self.same(step_chances(number, pair(one)), (pair(chances[0]), pair(chances[1])))

    def test_some_steps_by_hand(self):
        self.same((step(0, 0), step_share(0, 0), step_chances(0, 0)), ((-1, 2), (1, 2), ((1, 2), (1, 2))))
        self.same((step(0, 1), step_share(0, 1), step_chances(0, 1)), ((0, 1), (0, 1), ((1, 2), (1, 2))))
        self.same((step(1, 0), step_share(1, 0), step_chances(1, 0)), ((0, 1), (1, 1), ((1, 2), (1, 2))))
        self.same((step(0, 2), step_share(0, 2), step_chances(0, 2)), ((0, 1), (0, 1), ((1, 1), (0, 1))))
        self.same((step(2, 0), step_share(2, 0), step_chances(2, 0)), ((0, 1), (1, 1), ((0, 1), (1, 1))))
        self.same(step((-1, 2), (-2, 8)), (-7, 8))
        self.same(step_share((2, 4), 0), (3, 4))
        self.same(step(-5, -9), (-9, 1))

    def test_values_that_are_no_numbers(self):
        for wrong in NOT_NUMBERS:
            for call in (step, step_share, step_chances):
                self.raises(BadNumber, {}, call, wrong, 0)
                self.raises(BadNumber, {}, call, 0, wrong)
                self.raises(BadNumber, {}, call, wrong, wrong)


class Folds(Case):
    def test_folds_of_tables_of_all_rounds(self):
        for rounds in range(9):
            for table in some_tables(rounds):
                found = folds_by_point_26(table)
                order = all_texts(2, rounds)
                self.same(folds(table), pairs(found[b] for b in order))
                self.same(fold(table), pair(found[""]))
                for b in order[:40] + order[-3:]:
                    self.same(fold_behind(table, b), pair(found[b]))
                    self.same(fold_behind(table, b), fold(behind(table, b)))
        self.new_list(lambda: folds(flat(2, 2, 1)))

    def test_tables_of_0_rounds(self):
        for number in (0, 1, -1, (7, 2), (-6, 4)):
            table = flat(2, 0, number)
            self.same(fold(table), pair(value_of(number)))
            self.same(folds(table), [pair(value_of(number))])
            self.same(fold_behind(table, ""), pair(value_of(number)))
            self.same((len(keeper(table)), len(breaker(table))), (0, 0))
            self.same(keeper(table) == even_plan(2, 0), True)
            self.same(can_keep(table), value_of(number) >= 0)

    def test_a_fold_depends_on_the_rows_behind_alone(self):
        table = some_tables(3)[0]
        for row in texts(2, 3):
            other = changed(table, row, 77)
            for b in all_texts(2, 3):
                if not row.startswith(b):
                    self.same(fold_behind(other, b), fold_behind(table, b))

    def test_folds_of_0_and_beside_it(self):
        for rounds in range(6):
            table = misses_table(Plan(2, rounds, some_shares(2, rounds, 3)))
            self.same((fold(table), can_keep(table), lack(table)), ((0, 1), True, (0, 1)))
            self.same(kept(table) == keeper(table), True)
            more = raised(table, pair(SMALL))
            self.same((fold(more), can_keep(more), lack(more)), (pair(SMALL), True, (0, 1)))
            self.same(kept(more) == keeper(table), True)
            less = raised(table, pair(-SMALL))
            self.same((fold(less), can_keep(less), lack(less)), (pair(-SMALL), False, pair(SMALL)))
            self.raises(Lacking, {"amount": pair(SMALL)}, kept, less)
        self.same(lack(flat(2, 2, 0)), (1, 1))
        self.raises(Lacking, {"amount": (1, 1)}, kept, flat(2, 2, 0))
        self.raises(Lacking, {"amount": (7, 1)}, kept, flat(2, 0, -7))

    def test_wrong_beginnings(self):
        for rounds in (0, 1, 3, 8):
            for text in [*wrong_texts(2), "0" * (rounds + 1), "1" * 100]:
                if text not in all_texts(2, rounds):
                    self.raises(BadRow, {"found": text}, fold_behind, flat(2, rounds, 0), text)


class KeepersAndBreakers(Case):
    def test_shares_and_chances(self):
        for rounds in range(9):
            for table in some_tables(rounds):
                found = folds_by_point_26(table)
                chooser, foe = keeper(table), breaker(table)
                self.assertIs(type(chooser), Plan)
                self.assertIs(type(foe), Plan)
                self.same((chooser.width, chooser.rounds, foe.width, foe.rounds), (2, rounds, 2, rounds))
                for b in inner_texts(2, rounds):
                    _, share, chances = two_step(found[b + "0"], found[b + "1"])
                    self.same(chooser(b), (pair(1 - share), pair(share)))
                    self.same(foe(b), (pair(chances[0]), pair(chances[1])))

    def test_keeper_and_breaker_on_every_row(self):
        for rounds in range(7):
            for table in some_tables(rounds):
                value = value_of(fold(table))
                chooser, foe = keeper(table), breaker(table)
                for row in texts(2, rounds):
                    room = value_of(table(row)) - value - misses_on(chooser, row)
                    self.assertGreaterEqual(room, 0)
                    if chance_of(foe, row) > 0:
                        self.assertEqual(room, 0)
                self.assertEqual(lowest_misses(foe), mean_by(foe, table) - value)
                self.same(keeps(chooser, table), can_keep(table))

    def test_a_number_added_to_all_cells(self):
        for rounds in range(7):
            for table in some_tables(rounds):
                for number in (1, -1, (5, 7), pair(SMALL), -1000):
                    other = raised(table, number)
                    self.same(fold(other), pair(value_of(fold(table)) + value_of(number)))
                    self.same(keeper(other) == keeper(table), True)
                    self.same(breaker(other) == breaker(table), True)

    def test_folds_do_not_fall_if_no_cell_falls(self):
        for table in some_tables(3):
            for row in texts(2, 3):
                other = changed(table, row, pair(value_of(table(row)) + Fraction(1, 3)))
                self.assertGreaterEqual(value_of(fold(other)), value_of(fold(table)))

    def test_folds_and_means(self):
        for rounds in range(7):
            for table in some_tables(rounds):
                most = means_of(table)[""] - Fraction(rounds, 2)
                self.assertLessEqual(value_of(fold(table)), most)
                self.assertEqual(value_of(fold(table)) == most, bars(table) == [])

    def test_tables_of_misses_have_their_chooser_as_keeper(self):
        for rounds in range(9):
            for plan in (Plan(2, rounds, some_shares(2, rounds, 5)), sure_plan(2, "10110010"[:rounds])):
                self.same(fold(misses_table(plan)), (0, 1))
                self.same(keeper(misses_table(plan)) == plan, True)


class Widths(Case):
    def test_tables_of_another_width(self):
        for width, rounds in OTHER_WIDTHS:
            table = flat(width, rounds, -1)
            for call in (fold, folds, can_keep, lack, keeper, breaker, kept):
                self.raises(Mismatch, {}, call, table)
            for text in ("", "0", "x", "0" * 9):
                self.raises(Mismatch, {}, fold_behind, table, text)


class NothingChanges(Case):
    def test_tables_stay_as_they_were(self):
        table = Table(2, 2, [5, 0, -1, 0])
        for call in (fold, folds, can_keep, lack, keeper, breaker):
            call(table)
        fold_behind(table, "0")
        self.same(table.cells, [(5, 1), (0, 1), (-1, 1), (0, 1)])


if __name__ == "__main__":
    unittest.main()
