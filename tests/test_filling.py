"""Points 33 to 35, and the section notbehind/filling.py."""

import itertools
import unittest
from fractions import Fraction

from model import chance_of, filling, lowest_misses, mean_by, means_of, misses_on, slacks, wide_folds
from notbehind.errors import BadCount, BadNumber, BadRow, Mismatch, NotExact
from notbehind.exactly import bars, exact_chooser, is_exact
from notbehind.filling import (
    exact_chooser_wide, exact_shares, fill, fill_chances, fill_shares, filled, is_exact_wide, is_fill, wide_bars,
    wide_behind, wide_bounds_paper, wide_breaker, wide_fold, wide_folds as program_folds, wide_keeper,
    wide_tight_rows, wide_value_paper,
)
from notbehind.folding import breaker, fold, fold_behind, folds, keeper, step, step_chances, step_share
from notbehind.misses import even_misses, keeps, misses_table
from notbehind.papers import bounds_paper, is_bounds_paper, is_value_paper, tight_rows, value_paper
from notbehind.plans import Plan, even_plan, sure_plan
from notbehind.tables import Table, changed, flat, raised
from samples import some_plan
from support import (
    NOT_NUMBERS, SHAPES, SMALL_SHAPES, Case, all_texts, inner_texts, pair, pairs, some_numbers, texts, value_of,
    wrong_texts,
)

SMALL = Fraction(1, 10 ** 25)


def some_tables(width, rounds):
    """Tables of all sorts: cells far apart, cells near each other, tables of misses, cells below 0."""
    many = width ** rounds
    rough = Table(width, rounds, some_numbers(many, 3))
    return [
        rough, rough * (1, 12), misses_table(some_plan(width, rounds)), Table(width, rounds, [at % 3 for at in range(many)]),
    ]


def even_table(width, rounds):
    """A table whose cells all are the even misses."""
    return flat(width, rounds, even_misses(width, rounds))


class Levels(Case):
    def check(self, levels):
        told, shares, outcomes, chances = filling([value_of(level) for level in levels])
        with self.subTest(levels=levels):
            self.same(fill(levels), pair(told))
            self.same(fill_shares(levels), tuple(pairs(shares)))
            self.same(filled(levels), outcomes)
            self.same(fill_chances(levels), tuple(pairs(chances)))
            self.same(is_fill(levels, pair(told)), True)

    def test_the_examples_of_the_document(self):
        self.same(fill([0, (1, 2), 3]), (-1, 4))
        self.same(fill_shares([0, (1, 2), 3]), ((3, 4), (1, 4), (0, 1)))
        self.same(filled([0, 1, 5]), [0, 1])

    def test_one_level(self):
        for number in some_numbers(10):
            told = pair(value_of(number))
            self.same(fill([number]), told)
            self.same((fill_shares([number]), filled([number]), fill_chances([number])), (((1, 1),), [0], ((1, 1),)))

    def test_equal_levels(self):
        for many in range(1, 6):
            for number in (0, (1, 3), -7, (2, 4)):
                levels = [number] * many
                self.same(fill(levels), pair(value_of(number) - 1 + Fraction(1, many)))
                self.same(fill_shares(levels), ((1, many),) * many)
                self.same(filled(levels), list(range(many)))
                self.same(fill_chances(levels), ((1, many),) * many)

    def test_levels_of_each_number_in_any_order(self):
        values = [0, 1, (1, 2), (-1, 3), 2, (4, 4)]
        for many in range(1, 5):
            for levels in itertools.product(values, repeat=many):
                self.check(list(levels))
        for levels in itertools.product([0, 1, (1, 3), (-5, 2)], repeat=5):
            self.check(levels)

    def test_a_level_at_the_height_is_filled_with_the_share_0(self):
        self.same(filled([0, 1]), [0, 1])
        self.same(fill_shares([0, 1]), ((1, 1), (0, 1)))
        self.same(fill_chances([1, 0, 2]), ((1, 2), (1, 2), (0, 1)))
        self.same(filled([(1, 2), (1, 2), 1]), [0, 1, 2])
        self.same(fill_shares([(1, 2), 1, (1, 2)]), ((1, 2), (0, 1), (1, 2)))
        self.same(fill_chances([(1, 2), 1, (1, 2)]), ((1, 3), (1, 3), (1, 3)))
        self.same(fill([(1, 2), (1, 2), 1]), (0, 1))
        for shift, outcomes in ((0, [0, 1, 2]), (SMALL, [0, 1]), (-SMALL, [0, 1, 2])):
            self.same(filled([(1, 2), (1, 2), pair(1 + shift)]), outcomes)
        self.check([0, 0, 0, (1, 3), (1, 3)])
        self.check([5, 4, 4, 5, 4])

    def test_levels_far_apart_and_beside_each_other(self):
        for shift in (0, SMALL, -SMALL, 1, 1 + SMALL, 1 - SMALL, -1, Fraction(1, 2), 50):
            for base in (0, Fraction(-17, 3)):
                self.check([pair(base), pair(base + shift)])
                self.check([pair(base + shift), pair(base), pair(base + 2 * shift)])
                self.check([pair(base + at * shift) for at in (3, 0, 2, 4, 1)])

    def test_numbers_beside_the_step(self):
        for levels in ([0], [0, (1, 2), 3], [5, 5, 5, 5, 5], (1, 2)):
            told = value_of(fill(levels))
            self.same(is_fill(levels, (told.numerator * 4, told.denominator * 4)), True)
            for shift in (SMALL, -SMALL, 1, -1):
                self.same(is_fill(levels, pair(told + shift)), False)
        self.same(is_fill([3], 3), True)
        self.same(is_fill([3], 4), False)

    def test_a_tuple_is_the_list_of_its_items(self):
        self.same(fill((1, 2)), (1, 1))
        self.same(fill(((1, 2), (1, 2))), (0, 1))
        self.same(filled((0, 5, 0)), [0, 2])

    def test_wrong_numbers_of_levels(self):
        for call in (fill, fill_shares, filled, fill_chances, exact_shares):
            for many in (0, 6, 7, 600):
                for item in (0, None):
                    self.raises(BadCount, {"found": many, "low": 1, "high": 5}, call, [item] * many)
        self.raises(BadCount, {"found": 0, "low": 1, "high": 5}, is_fill, [], None)
        self.raises(BadCount, {"found": 6, "low": 1, "high": 5}, is_fill, [0] * 6, 0)

    def test_values_that_are_no_numbers(self):
        for wrong in NOT_NUMBERS:
            for call in (fill, fill_shares, filled, fill_chances, exact_shares):
                self.raises(BadNumber, {}, call, [wrong])
                self.raises(BadNumber, {}, call, [0, 0, wrong])
                self.raises(BadNumber, {}, call, (wrong, 0, 0, 0, 50))
            self.raises(BadNumber, {}, is_fill, [0, wrong], 0)
            self.raises(BadNumber, {}, is_fill, [0, 1], wrong)

    def test_levels_stay_as_they_were_and_lists_are_new(self):
        levels = [(2, 4), 0, 7]
        for call in (fill, fill_shares, filled, fill_chances):
            call(levels)
        is_fill(levels, 0)
        self.same(levels, [(2, 4), 0, 7])
        self.new_list(lambda: filled([0, 1, 5]))


class TwoLevels(Case):
    def test_the_same_as_folding(self):
        for zero in some_numbers(12, 4):
            for shift in (0, (1, 2), 1, -1, 3, -3, pair(1 + SMALL), pair(SMALL - 1)):
                one = pair(value_of(zero) + value_of(shift))
                self.same(fill([zero, one]), step(zero, one))
                self.same(fill_shares([zero, one])[1], step_share(zero, one))
                self.same(fill_chances([zero, one]), step_chances(zero, one))

    def test_tables_of_width_2(self):
        for rounds in range(7):
            for table in some_tables(2, rounds):
                self.same((wide_fold(table), program_folds(table)), (fold(table), folds(table)))
                self.same((wide_keeper(table) == keeper(table), wide_breaker(table) == breaker(table)), (True, True))
                for b in all_texts(2, rounds):
                    self.same(wide_behind(table, b), fold_behind(table, b))
                self.same((wide_bars(table), is_exact_wide(table)), (bars(table), is_exact(table)))
                self.same(wide_bounds_paper(table)[0], bounds_paper(table)[0])
                self.same(wide_bounds_paper(table)[1] == bounds_paper(table)[1], True)
                self.same(wide_value_paper(table)[0], value_paper(table)[0])
                self.same(wide_tight_rows(keeper(table), table), tight_rows(keeper(table), table))
                if is_exact(table):
                    self.same(exact_chooser_wide(table) == exact_chooser(table), True)


class WideFolds(Case):
    def test_folds_keepers_and_breakers_of_every_shape(self):
        for width, rounds in SHAPES:
            for table in some_tables(width, rounds)[:2]:
                found = wide_folds(table)
                with self.subTest(width=width, rounds=rounds):
                    order = all_texts(width, rounds)
                    self.same(program_folds(table), pairs(found[b] for b in order))
                    self.same(wide_fold(table), pair(found[""]))
                    for b in order[:20] + order[-3:]:
                        self.same(wide_behind(table, b), pair(found[b]))
                    chooser, foe = wide_keeper(table), wide_breaker(table)
                    self.same((type(chooser), type(foe)), (Plan, Plan))
                    self.same((chooser.width, chooser.rounds, foe.width, foe.rounds), (width, rounds) * 2)
                    for b in inner_texts(width, rounds):
                        _, shares, _, chances = filling([found[b + outcome] for outcome in texts(width, 1)])
                        self.same(chooser(b), tuple(pairs(shares)))
                        self.same(foe(b), tuple(pairs(chances)))

    def test_keeper_and_breaker_on_every_row(self):
        for width, rounds in SMALL_SHAPES:
            for table in some_tables(width, rounds):
                value = value_of(wide_fold(table))
                chooser, foe = wide_keeper(table), wide_breaker(table)
                for row in texts(width, rounds):
                    room = value_of(table(row)) - value - misses_on(chooser, row)
                    self.assertGreaterEqual(room, 0)
                    if chance_of(foe, row) > 0:
                        self.assertEqual(room, 0)
                self.assertEqual(lowest_misses(foe), mean_by(foe, table) - value)

    def test_added_numbers_and_cells_that_rise(self):
        for width, rounds in SMALL_SHAPES:
            for table in some_tables(width, rounds):
                other = raised(table, (-7, 3))
                self.same(wide_fold(other), pair(value_of(wide_fold(table)) - Fraction(7, 3)))
                self.same(wide_keeper(other) == wide_keeper(table), True)
                self.same(wide_breaker(other) == wide_breaker(table), True)
                row = "0" * rounds
                other = changed(table, row, pair(value_of(table(row)) + 2))
                self.assertGreaterEqual(value_of(wide_fold(other)), value_of(wide_fold(table)))

    def test_folds_and_means(self):
        for width, rounds in SMALL_SHAPES:
            for table in some_tables(width, rounds) + [even_table(width, rounds)]:
                most = means_of(table)[""] - value_of(even_misses(width, rounds))
                self.assertLessEqual(value_of(wide_fold(table)), most)
                self.assertEqual(value_of(wide_fold(table)) == most, wide_bars(table) == [])

    def test_tables_of_misses(self):
        for width, rounds in SHAPES:
            for plan in (some_plan(width, rounds, 4), even_plan(width, rounds)):
                self.same(wide_fold(misses_table(plan)), (0, 1))
                self.same(wide_keeper(misses_table(plan)) == plan, True)

    def test_tables_of_0_rounds_and_of_width_1(self):
        for width in range(1, 6):
            self.same(program_folds(flat(width, 0, (-6, 4))), [(-3, 2)])
            self.same((len(wide_keeper(flat(width, 0, 1))), len(wide_breaker(flat(width, 0, 1)))), (0, 0))
        for rounds in range(9):
            self.same(program_folds(flat(1, rounds, (5, 2))), [(5, 2)] * (rounds + 1))
            self.same(wide_keeper(flat(1, rounds, 3)) == even_plan(1, rounds), True)

    def test_wrong_beginnings(self):
        for width, rounds in SMALL_SHAPES:
            for text in [*wrong_texts(width), "0" * (rounds + 1), "0" * 100]:
                self.raises(BadRow, {"found": text}, wide_behind, flat(width, rounds, 0), text)

    def test_lists_are_new(self):
        self.new_list(lambda: program_folds(flat(3, 1, 1)))


class WidePapers(Case):
    def test_value_papers(self):
        for width, rounds in SHAPES:
            table = some_tables(width, rounds)[0]
            paper = wide_value_paper(table)
            self.same((type(paper), len(paper), paper[0]), (tuple, 3, wide_fold(table)))
            self.same((paper[1] == wide_keeper(table), paper[2] == wide_breaker(table)), (True, True))
            self.same(is_value_paper(table, paper), True)

    def test_bounds_papers(self):
        for width, rounds in SHAPES:
            table = misses_table(some_plan(width, rounds, 2))
            for shift, word in ((0, "kept"), (pair(SMALL), "kept"), (pair(-SMALL), "broken")):
                other = raised(table, shift)
                paper = wide_bounds_paper(other)
                self.same((type(paper), len(paper), paper[0]), (tuple, 2, word))
                self.same(paper[1] == (wide_keeper(other) if word == "kept" else wide_breaker(other)), True)
                self.same(is_bounds_paper(other, paper), True)
                self.same(keeps(wide_keeper(other), other), word == "kept")

    def test_tight_rows(self):
        for width, rounds in SHAPES:
            table = some_tables(width, rounds)[1]
            value = wide_folds(table)[""]
            for chooser in (wide_keeper(table), some_plan(width, rounds), even_plan(width, rounds)):
                expected = [row for row, slack in slacks(chooser, table).items() if slack == value]
                self.same(wide_tight_rows(chooser, table), expected)
        self.same(wide_tight_rows(sure_plan(3, "1"), Table(3, 1, [0, 0, 0])), [])
        self.same(wide_tight_rows(sure_plan(3, "1"), Table(3, 1, [1, 9, 0])), ["0"])
        self.new_list(lambda: wide_tight_rows(even_plan(3, 1), flat(3, 1, 1)))

    def test_unlike_shapes(self):
        for shape in [(2, 1), (3, 1), (2, 2), (1, 1), (5, 0)]:
            for other in SHAPES:
                if other != shape:
                    self.raises(Mismatch, {}, wide_tight_rows, even_plan(*other), flat(*shape, 0))


class ExactShares(Case):
    def test_shares(self):
        for width in range(1, 6):
            for seed in range(20):
                levels = [pair(value_of(number) / 30) for number in some_numbers(width, seed)]
                values = [value_of(level) for level in levels]
                shares = [Fraction(1, width) + sum(values) / width - value for value in values]
                if min(shares) < 0:
                    self.raises(NotExact, {"beginning": None}, exact_shares, levels)
                else:
                    self.same(exact_shares(levels), tuple(pairs(shares)))

    def test_shares_of_0_and_below(self):
        self.same(exact_shares([0, 1, 1]), ((1, 1), (0, 1), (0, 1)))
        self.same(exact_shares([5]), ((1, 1),))
        self.same(exact_shares((1, 2)), ((1, 1), (0, 1)))
        for many in range(2, 6):
            one = [0] * (many - 1) + [pair(Fraction(1, many - 1))]
            self.same(exact_shares(one), ((1, many - 1),) * (many - 1) + ((0, 1),))
            self.raises(NotExact, {"beginning": None}, exact_shares, one[:-1] + [pair(Fraction(1, many - 1) + SMALL)])
        self.raises(NotExact, {"beginning": None}, exact_shares, [0, 3])


class ExactWide(Case):
    def bars_of(self, table):
        behind = means_of(table)
        limit = Fraction(1, table.width)
        return [
            b for b in inner_texts(table.width, table.rounds)
            if any(behind[b + outcome] > behind[b] + limit for outcome in texts(table.width, 1))
        ]

    def test_bars_of_every_shape(self):
        for width, rounds in SHAPES:
            for table in some_tables(width, rounds):
                self.same(wide_bars(table), self.bars_of(table))
        self.same(wide_bars(flat(1, 8, 77)), [])
        self.new_list(lambda: wide_bars(Table(3, 1, [0, 0, 9])))

    def test_a_mean_at_the_limit_is_no_bar(self):
        for width in range(2, 6):
            top = Fraction(1, width - 1)
            cells = [0] * (width - 1)
            self.same(wide_bars(Table(width, 1, cells + [pair(top)])), [])
            self.same(wide_bars(Table(width, 1, cells + [pair(top - SMALL)])), [])
            self.same(wide_bars(Table(width, 1, cells + [pair(top + SMALL)])), [""])
            self.same(wide_bars(Table(width, 1, [pair(top + SMALL)] + cells)), [""])
            low = [1] * (width - 1) + [0]
            self.same(wide_bars(Table(width, 1, low)), [])

    def test_tables_of_misses_give_their_chooser_back(self):
        for width, rounds in SHAPES:
            for plan in (some_plan(width, rounds, 4), even_plan(width, rounds), sure_plan(width, "0" * rounds)):
                table = misses_table(plan)
                self.same((is_exact_wide(table), wide_bars(table)), (True, []))
                self.assertIs(type(exact_chooser_wide(table)), Plan)
                self.same(exact_chooser_wide(table) == plan, True)

    def test_wrong_means(self):
        for width, rounds in SHAPES:
            table = misses_table(some_plan(width, rounds, 3))
            for shift in (SMALL, -SMALL, 1):
                other = raised(table, pair(shift))
                self.same(is_exact_wide(other), False)
                self.raises(NotExact, {"beginning": None}, exact_chooser_wide, other)
        for width in range(1, 6):
            self.same(is_exact_wide(flat(width, 0, 0)), True)
            self.same(len(exact_chooser_wide(flat(width, 0, 0))), 0)
            self.raises(NotExact, {"beginning": None}, exact_chooser_wide, flat(width, 0, pair(SMALL)))
        self.raises(NotExact, {"beginning": None}, exact_chooser_wide, Table(3, 1, [0, 0, 5]))

    def test_the_first_bar_is_told(self):
        table = even_table(3, 2)
        for row in texts(3, 2):
            cells = {r: value_of(table(r)) for r in texts(3, 2)}
            cells[row] += 1
            cells[row[:1] + "012"[int(row[1]) - 1]] -= 1
            other = Table(3, 2, pairs(cells.values()))
            self.same((is_exact_wide(other), wide_bars(other)), (False, [row[:1]]))
            self.raises(NotExact, {"beginning": row[:1]}, exact_chooser_wide, other)
        other = Table(3, 2, [4, 4, 4, 0, 0, 0, 0, 0, 0])
        self.same(wide_bars(other), [""])
        self.raises(NotExact, {"beginning": ""}, exact_chooser_wide, other)
        other = Table(3, 2, [(4, 3)] * 3 + [4, 0, 0] + [4, 0, 0])
        self.same(wide_bars(other), ["1", "2"])
        self.raises(NotExact, {"beginning": "1"}, exact_chooser_wide, other)

    def test_just_tables_of_misses_are_exact(self):
        for width, rounds in SMALL_SHAPES:
            for seed in range(6):
                rough = Table(width, rounds, some_numbers(width ** rounds, seed)) * (1, 12 * seed + 1)
                even = pair(value_of(even_misses(width, rounds)) - means_of(rough)[""])
                table = raised(rough, even)
                self.same(is_exact_wide(table), self.bars_of(table) == [])
                if is_exact_wide(table):
                    self.same(misses_table(exact_chooser_wide(table)) == table, True)


if __name__ == "__main__":
    unittest.main()
