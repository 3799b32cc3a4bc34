"""Points 23 to 25, and the section notbehind/exactly.py."""

from fractions import Fraction

import unittest

from model import means_of
from notbehind.errors import BadNumber, BadRow, Mismatch, NotExact
from notbehind.exactly import (
    bars, exact_chooser, exact_paper, exact_share, gap, has_even_mean, is_exact, is_exact_paper, past_misses,
    raised_to_even,
)
from notbehind.misses import misses_table, row_misses
from notbehind.plans import Plan, even_plan, ones_plan, sure_plan
from notbehind.tables import Table, changed, flat, mean_behind, raised
from support import (
    NOT_NUMBERS, SHAPES, Case, all_texts, inner_texts, pair, some_numbers, some_shares, texts, value_of, wrong_texts,
)

SMALL = Fraction(1, 10 ** 25)
OTHER_WIDTHS = [(1, 0), (1, 1), (1, 8), (3, 0), (3, 1), (3, 2), (4, 1), (5, 0), (5, 3)]


def some_table(rounds, seed=1):
    return Table(2, rounds, some_numbers(2 ** rounds, seed))


def some_plan(rounds, seed=1):
    return Plan(2, rounds, some_shares(2, rounds, seed))


def by_gap(value):
    """A table of 1 round with an even mean and this gap."""
    return Table(2, 1, [pair((1 + value) / 2), pair((1 - value) / 2)])


def bars_of(table):
    behind = means_of(table)
    return [b for b in inner_texts(2, table.rounds) if abs(behind[b + "0"] - behind[b + "1"]) > 1]


class Examples(Case):
    def test_the_examples_of_the_document(self):
        self.same(exact_chooser(Table(2, 1, [1, 0])).shares, [((0, 1), (1, 1))])
        self.same(exact_paper(Table(2, 1, [(3, 2), (-1, 2)])), ("barred", ""))


class Gaps(Case):
    def test_gaps_and_bars_of_tables_of_all_rounds(self):
        for rounds in range(9):
            for seed in (1, 2):
                table = some_table(rounds, seed)
                behind = means_of(table)
                with self.subTest(rounds=rounds, seed=seed):
                    for b in inner_texts(2, rounds):
                        self.same(gap(table, b), pair(behind[b + "0"] - behind[b + "1"]))
                    self.same(bars(table), bars_of(table))
                    self.same(has_even_mean(table), behind[""] == Fraction(rounds, 2))

    def test_gaps_of_1_are_no_bars(self):
        for value in (Fraction(1), Fraction(-1), 1 - SMALL, SMALL - 1, Fraction(0)):
            table = by_gap(value)
            self.same(gap(table, ""), pair(value))
            self.same(bars(table), [])
            self.same(is_exact(table), True)
            self.same(exact_chooser(table)(""), (pair((1 - value) / 2), pair((1 + value) / 2)))
        for value in (1 + SMALL, -1 - SMALL, Fraction(2), Fraction(-7)):
            table = by_gap(value)
            self.same(gap(table, ""), pair(value))
            self.same(bars(table), [""])
            self.same(is_exact(table), False)
            self.same(has_even_mean(table), True)
            self.raises(NotExact, {"beginning": ""}, exact_chooser, table)

    def test_bars_in_order_at_any_depth(self):
        table = misses_table(even_plan(2, 3))
        self.same(bars(table), [])
        for row in texts(2, 3):
            for shift in (1 + SMALL, -1 - SMALL):
                self.same(bars(changed(table, row, pair(Fraction(3, 2) + shift))), [row[:2]])
            self.same(bars(changed(table, row, pair(Fraction(5, 2)))), [])
        self.same(bars(Table(2, 2, [5, 0, 0, 0])), ["", "0"])
        self.same(bars(Table(2, 2, [0, 5, 5, 0])), ["0", "1"])
        self.same(bars(Table(2, 3, [9, 0, 9, 0, 0, 9, 0, 9])), ["00", "01", "10", "11"])
        self.same(bars(flat(2, 0, 7)), [])
        self.new_list(lambda: bars(Table(2, 2, [5, 0, 0, 0])))

    def test_wrong_beginnings(self):
        for rounds in (0, 1, 3, 8):
            table = some_table(rounds)
            for text in [*wrong_texts(2), "0" * rounds, "1" * (rounds + 1), "0" * 100]:
                if text not in inner_texts(2, rounds):
                    self.raises(BadRow, {"found": text}, gap, table, text)
            for text in [*wrong_texts(2), "0" * (rounds + 1), "1" * 100]:
                if text not in all_texts(2, rounds):
                    self.raises(BadRow, {"found": text}, past_misses, table, text)


class Shares(Case):
    def test_shares_of_outcome_1(self):
        for zero in some_numbers(12, 3):
            for difference in (1, -1, 0, (1, 2), (-2, 3), (2, 4), pair(1 - SMALL), pair(SMALL - 1)):
                one = pair(value_of(zero) - value_of(difference))
                self.same(exact_share(zero, one), pair((value_of(difference) + 1) / 2))
            for difference in (pair(1 + SMALL), pair(-1 - SMALL), 2, -2, (3, 2), 10 ** 30):
                one = pair(value_of(zero) - value_of(difference))
                self.raises(NotExact, {"beginning": None}, exact_share, zero, one)

    def test_values_that_are_no_numbers(self):
        for wrong in NOT_NUMBERS:
            self.raises(BadNumber, {}, exact_share, wrong, 0)
            self.raises(BadNumber, {}, exact_share, 0, wrong)
            self.raises(BadNumber, {}, exact_share, 5, wrong)


class ExactTables(Case):
    def test_tables_of_misses_are_exact_and_give_their_chooser_back(self):
        for rounds in range(9):
            for plan in (some_plan(rounds), some_plan(rounds, 2), even_plan(2, rounds), sure_plan(2, "01101001"[:rounds])):
                table = misses_table(plan)
                self.same(is_exact(table), True)
                self.same(bars(table), [])
                self.same(has_even_mean(table), True)
                self.assertIs(type(exact_chooser(table)), Plan)
                self.same(exact_chooser(table) == plan, True)
                for beginning in all_texts(2, rounds):
                    self.same(past_misses(table, beginning), row_misses(plan, beginning))

    def test_means_beside_half_of_the_rounds(self):
        for rounds in range(9):
            table = misses_table(some_plan(rounds, 4))
            for shift in (SMALL, -SMALL, Fraction(1), Fraction(-3)):
                beside = raised(table, pair(shift))
                self.same(has_even_mean(beside), False)
                self.same(is_exact(beside), False)
                self.same(bars(beside), [])
                self.raises(NotExact, {"beginning": None}, exact_chooser, beside)
                last = changed(table, "1" * rounds, pair(value_of(table("1" * rounds)) + shift))
                self.same(has_even_mean(last), False)
                self.raises(NotExact, {"beginning": None}, exact_chooser, last)

    def test_tables_of_0_rounds(self):
        self.same(is_exact(flat(2, 0, 0)), True)
        self.same(is_exact(Table(2, 0, [(0, 5)])), True)
        self.same(len(exact_chooser(flat(2, 0, 0))), 0)
        self.same(exact_chooser(flat(2, 0, 0)) == even_plan(2, 0), True)
        for number in (1, -1, pair(SMALL), pair(-SMALL)):
            self.same(is_exact(flat(2, 0, number)), False)
            self.raises(NotExact, {"beginning": None}, exact_chooser, flat(2, 0, number))

    def test_the_first_bar_is_told_unless_the_mean_is_wrong(self):
        for cells, first in (([5, 0, -1, 0], ""), ([0, 2, 2, 0], "0"), ([1, 1, 0, 2], "1"), ([0, 2, 1, 1], "0")):
            table = Table(2, 2, cells)
            self.same(has_even_mean(table), True)
            self.raises(NotExact, {"beginning": first}, exact_chooser, table)
            self.raises(NotExact, {"beginning": None}, exact_chooser, raised(table, pair(SMALL)))
            self.same(is_exact(table), False)

    def test_tables_with_an_even_mean_are_exact_just_without_bars(self):
        for rounds in range(7):
            for seed in range(6):
                table = raised_to_even(some_table(rounds, seed) * (1, 3 * seed + 1))[0]
                self.same(is_exact(table), bars_of(table) == [])
                if is_exact(table):
                    self.same(misses_table(exact_chooser(table)) == table, True)

    def test_raised_to_even(self):
        for rounds in range(9):
            table = some_table(rounds, 5)
            answer = raised_to_even(table)
            self.assertIs(type(answer), tuple)
            even, number = answer
            self.same(number, pair(Fraction(rounds, 2) - means_of(table)[""]))
            self.same(even == raised(table, number), True)
            self.assertIs(type(even), Table)
            self.same(has_even_mean(even), True)
            self.same(raised_to_even(even)[1], (0, 1))
            self.same(raised_to_even(even)[0] == even, True)

    def test_past_misses_of_tables_that_are_not_exact(self):
        for rounds in range(6):
            table = some_table(rounds, 6)
            for b in all_texts(2, rounds):
                expected = value_of(mean_behind(table, b)) - Fraction(rounds - len(b), 2)
                self.same(past_misses(table, b), pair(expected))
        self.same(past_misses(Table(2, 1, [3, 1]), ""), (3, 2))
        self.same(past_misses(Table(2, 1, [3, 1]), "0"), (3, 1))


class Papers(Case):
    def papers(self, table):
        """One paper of each kind that somebody might pass for the table."""
        number = pair(means_of(table)[""])
        return [("chooser", even_plan(2, table.rounds)), ("mean", number), ("barred", ""), ("barred", "0")]

    def test_the_paper_returned(self):
        plan = some_plan(3)
        table = misses_table(plan)
        paper = exact_paper(table)
        self.same(paper[0], "chooser")
        self.same((type(paper), len(paper), paper[1] == plan), (tuple, 2, True))
        self.same(exact_paper(raised(table, (1, 7))), ("mean", (23, 14)))
        self.same(exact_paper(Table(2, 2, [5, 0, 0, 0])), ("mean", (5, 4)))
        self.same(exact_paper(Table(2, 2, [4, 0, 0, 0])), ("barred", ""))
        self.same(exact_paper(Table(2, 2, [1, 1, 2, 0])), ("barred", "1"))
        self.same(exact_paper(flat(2, 0, (2, 4))), ("mean", (1, 2)))
        self.same(exact_paper(flat(2, 0, 0))[0], "chooser")

    def test_papers_returned_are_right(self):
        for rounds in range(7):
            for seed in range(4):
                for table in (some_table(rounds, seed), raised_to_even(some_table(rounds, seed))[0]):
                    self.same(is_exact_paper(table, exact_paper(table)), True)

    def test_choosers(self):
        for rounds in range(6):
            plan, other = some_plan(rounds), some_plan(rounds, 2)
            table = misses_table(plan)
            self.same(is_exact_paper(table, ("chooser", plan)), True)
            self.same(is_exact_paper(table, ("chooser", other)), plan == other)
            self.same(is_exact_paper(raised(table, pair(SMALL)), ("chooser", plan)), False)
            for width, more in SHAPES:
                if (width, more) != (2, rounds):
                    self.same(is_exact_paper(table, ("chooser", even_plan(width, more))), False)
        self.same(is_exact_paper(flat(2, 0, 0), ("chooser", even_plan(1, 0))), False)
        self.same(is_exact_paper(flat(2, 2, 1), ("chooser", even_plan(2, 2))), True)
        self.same(is_exact_paper(Table(2, 1, [(3, 2), (-1, 2)]), ("chooser", ones_plan(1, [1]))), False)

    def test_means(self):
        table = Table(2, 1, [1, (1, 2)])
        for number in ((3, 4), (6, 8), (300, 400)):
            self.same(is_exact_paper(table, ("mean", number)), True)
        for number in ((1, 2), 0, 1, (-3, 4), pair(Fraction(3, 4) + SMALL), pair(Fraction(3, 4) - SMALL)):
            self.same(is_exact_paper(table, ("mean", number)), False)
        self.same(is_exact_paper(Table(2, 2, [5, 0, -1, 0]), ("mean", 1)), False)
        self.same(is_exact_paper(misses_table(even_plan(2, 2)), ("mean", 1)), False)
        self.same(is_exact_paper(Table(2, 2, [5, 2, 1, 0]), ("mean", 2)), True)
        self.same(is_exact_paper(Table(2, 2, [5, 2, 1, 0]), ("mean", (4, 2))), True)
        self.same(is_exact_paper(flat(2, 0, 3), ("mean", 3)), True)
        self.same(is_exact_paper(flat(2, 0, 0), ("mean", 0)), False)

    def test_bars(self):
        for table in (Table(2, 2, [5, 0, -1, 0]), Table(2, 2, [5, 0, 0, 9]), Table(2, 3, [9, 0, 0, 0, 2, 1, 4, 5])):
            for text in all_texts(2, 4) + wrong_texts(2):
                self.same(is_exact_paper(table, ("barred", text)), text in bars_of(table))
        self.same(is_exact_paper(flat(2, 0, 7), ("barred", "")), False)
        self.same(is_exact_paper(by_gap(Fraction(1)), ("barred", "")), False)
        self.same(is_exact_paper(by_gap(1 + SMALL), ("barred", "")), True)
        self.same(is_exact_paper(raised(by_gap(1 + SMALL), 3), ("barred", "")), True)

    def test_values_that_are_no_numbers(self):
        for table in (flat(2, 1, (1, 2)), flat(2, 1, 5), Table(2, 2, [5, 0, -1, 0])):
            for wrong in NOT_NUMBERS:
                self.raises(BadNumber, {}, is_exact_paper, table, ("mean", wrong))


class Widths(Case):
    def test_tables_of_another_width(self):
        for width, rounds in OTHER_WIDTHS:
            table = flat(width, rounds, 0)
            for call in (bars, has_even_mean, is_exact, exact_chooser, raised_to_even, exact_paper):
                self.raises(Mismatch, {}, call, table)
            for text in ("", "0", "x", "0" * 9):
                self.raises(Mismatch, {}, gap, table, text)
                self.raises(Mismatch, {}, past_misses, table, text)
            for paper in (("chooser", even_plan(2, 1)), ("mean", 0), ("mean", None), ("barred", "x")):
                self.raises(Mismatch, {}, is_exact_paper, table, paper)


class NothingChanges(Case):
    def test_tables_stay_as_they_were(self):
        table = Table(2, 2, [5, 0, -1, 0])
        for call in (bars, has_even_mean, is_exact, raised_to_even, exact_paper):
            call(table)
        gap(table, "")
        past_misses(table, "0")
        self.same(table.cells, [(5, 1), (0, 1), (-1, 1), (0, 1)])


if __name__ == "__main__":
    unittest.main()
