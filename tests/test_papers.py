"""Points 29 to 32, and the section notbehind/papers.py."""

import unittest
from fractions import Fraction

from model import lowest_misses, mean_by, slacks, wide_folds
from notbehind.errors import BadNumber, BadText, Mismatch
from notbehind.filling import wide_breaker, wide_keeper, wide_value_paper
from notbehind.folding import breaker, fold, keeper
from notbehind.forms import plan_text
from notbehind.misses import misses_table
from notbehind.papers import (
    bounds_paper, is_bounds_paper, is_value_paper, least_slack, paper_text, read_paper, slack_table, tight_rows,
    value_paper, worth,
)
from notbehind.plans import Plan, blended, even_plan, sure_plan
from notbehind.tables import Table, flat, raised
from samples import some_plan
from support import EDGE_SHAPES, NOT_NUMBERS, SHAPES, SMALL_SHAPES, Case, pair, pairs, some_numbers, texts, value_of

SMALL = Fraction(1, 10 ** 25)


def some_table(width, rounds, seed=1):
    return Table(width, rounds, some_numbers(width ** rounds, seed)) * (1, 5)


def unlike(width, rounds):
    return [shape for shape in SHAPES if shape != (width, rounds)]


class Slacks(Case):
    def test_slacks_of_every_shape(self):
        for width, rounds in SHAPES:
            table, chooser = some_table(width, rounds), some_plan(width, rounds)
            expected = slacks(chooser, table)
            found = slack_table(chooser, table)
            self.assertIs(type(found), Table)
            self.same((found.width, found.rounds), (width, rounds))
            self.same(found.cells, pairs(expected.values()))
            self.same(least_slack(chooser, table), pair(min(expected.values())))

    def test_no_slack_is_above_the_fold(self):
        for width, rounds in SMALL_SHAPES:
            table = some_table(width, rounds)
            value = wide_folds(table)[""]
            self.same(least_slack(wide_keeper(table), table), pair(value))
            for seed in range(5):
                self.assertLessEqual(value_of(least_slack(some_plan(width, rounds, seed), table)), value)

    def test_worth(self):
        for width, rounds in SHAPES:
            table, foe = some_table(width, rounds), some_plan(width, rounds, 2)
            self.same(worth(foe, table), pair(mean_by(foe, table) - lowest_misses(foe)))
        for width, rounds in SMALL_SHAPES:
            table = some_table(width, rounds)
            value = wide_folds(table)[""]
            self.same(worth(wide_breaker(table), table), pair(value))
            for seed in range(5):
                self.assertGreaterEqual(value_of(worth(some_plan(width, rounds, seed), table)), value)

    def test_tight_rows(self):
        for rounds in range(7):
            table = some_table(2, rounds)
            value = wide_folds(table)[""]
            for chooser in (keeper(table), some_plan(2, rounds), even_plan(2, rounds)):
                expected = [row for row, slack in slacks(chooser, table).items() if slack == value]
                self.same(tight_rows(chooser, table), expected)
            self.assertNotEqual(tight_rows(keeper(table), table), [])

    def test_tight_rows_whatever_the_least_slack_is(self):
        table = Table(2, 1, [2, 0])
        self.same(fold(table), (0, 1))
        self.same(tight_rows(sure_plan(2, "1"), table), ["1"])
        self.same(tight_rows(sure_plan(2, "0"), table), [])
        self.same(tight_rows(even_plan(2, 1), table), [])
        self.same(tight_rows(even_plan(2, 2), flat(2, 2, 1)), ["00", "01", "10", "11"])
        self.same(tight_rows(sure_plan(2, "0"), flat(2, 1, (1, 2))), [])
        self.same(tight_rows(even_plan(2, 0), flat(2, 0, -3)), [""])
        self.new_list(lambda: tight_rows(even_plan(2, 1), flat(2, 1, 1)))

    def test_unlike_shapes(self):
        for shape in [(2, 1), (2, 2), (3, 1), (1, 1), (2, 0), (5, 0)]:
            for other in unlike(*shape):
                plan, table = even_plan(*other), flat(*shape, 0)
                for call in (slack_table, least_slack, tight_rows, worth):
                    self.raises(Mismatch, {}, call, plan, table)
        for width, rounds in SHAPES:
            if width != 2:
                self.raises(Mismatch, {}, tight_rows, even_plan(width, rounds), flat(width, rounds, 0))


class BoundsPapers(Case):
    def test_the_paper_returned(self):
        for rounds in range(7):
            table = misses_table(some_plan(2, rounds))
            for shift, word in ((0, "kept"), (pair(SMALL), "kept"), (pair(-SMALL), "broken"), (-3, "broken"), (9, "kept")):
                other = raised(table, shift)
                paper = bounds_paper(other)
                self.same((type(paper), len(paper), paper[0]), (tuple, 2, word))
                self.same(paper[1] == (keeper(other) if word == "kept" else breaker(other)), True)
                self.same(is_bounds_paper(other, paper), True)
                self.same(is_bounds_paper(other, ("broken" if word == "kept" else "kept", paper[1])), False)

    def test_any_plan_that_does_so_makes_a_paper(self):
        for width, rounds in SMALL_SHAPES:
            for seed in range(4):
                table = some_table(width, rounds, seed)
                value = wide_folds(table)[""]
                for plan in (some_plan(width, rounds, seed), even_plan(width, rounds), wide_keeper(table)):
                    kept = min(slacks(plan, table).values()) >= 0
                    broken = lowest_misses(plan) > mean_by(plan, table)
                    self.same(is_bounds_paper(table, ("kept", plan)), kept)
                    self.same(is_bounds_paper(table, ("broken", plan)), broken)
                    self.assertFalse(kept and value < 0)
                    self.assertFalse(broken and value >= 0)

    def test_papers_at_their_edges(self):
        plan = some_plan(3, 2)
        table = misses_table(plan)
        self.same(is_bounds_paper(table, ("kept", plan)), True)
        self.same(is_bounds_paper(raised(table, pair(-SMALL)), ("kept", plan)), False)
        for shift, told in ((0, False), (pair(SMALL), False), (pair(-SMALL), True)):
            even = raised(flat(3, 2, (4, 3)), shift)
            self.same(is_bounds_paper(even, ("broken", even_plan(3, 2))), told)
        self.same(is_bounds_paper(flat(2, 0, 0), ("kept", even_plan(2, 0))), True)
        self.same(is_bounds_paper(flat(2, 0, 0), ("broken", even_plan(2, 0))), False)
        self.same(is_bounds_paper(flat(2, 0, pair(-SMALL)), ("broken", even_plan(2, 0))), True)

    def test_plans_of_another_shape(self):
        for shape in [(2, 1), (2, 0), (3, 2), (1, 3)]:
            for other in unlike(*shape):
                self.same(is_bounds_paper(flat(*shape, 50), ("kept", even_plan(*other))), False)
                self.same(is_bounds_paper(flat(*shape, -50), ("broken", even_plan(*other))), False)

    def test_tables_of_another_width(self):
        for width, rounds in SHAPES:
            if width != 2:
                self.raises(Mismatch, {}, bounds_paper, flat(width, rounds, 0))
                self.raises(Mismatch, {}, value_paper, flat(width, rounds, 0))


class ValuePapers(Case):
    def test_the_paper_returned(self):
        for rounds in range(7):
            table = some_table(2, rounds)
            paper = value_paper(table)
            self.same((type(paper), len(paper), paper[0]), (tuple, 3, fold(table)))
            self.same((paper[1] == keeper(table), paper[2] == breaker(table)), (True, True))
            self.same(is_value_paper(table, paper), True)

    def test_numbers_beside_the_fold(self):
        for width, rounds in SMALL_SHAPES:
            table = some_table(width, rounds)
            number, chooser, foe = wide_value_paper(table)
            for shift in (SMALL, -SMALL, Fraction(1), Fraction(-1)):
                other = pair(value_of(number) + shift)
                self.same(is_value_paper(table, (other, chooser, foe)), False)
            self.same(is_value_paper(table, ((number[0] * 6, number[1] * 6), chooser, foe)), True)

    def test_whole_numbers(self):
        table = misses_table(some_plan(2, 2))
        self.same(is_value_paper(table, (0, keeper(table), breaker(table))), True)
        self.same(is_value_paper(table, ((0, 9), keeper(table), breaker(table))), True)
        self.same(is_value_paper(table, (1, keeper(table), breaker(table))), False)

    def test_other_plans_than_keeper_and_breaker(self):
        table = Table(2, 2, [0, 0, 5, 9])
        number, chooser, foe = value_paper(table)
        other = Plan(2, 2, [chooser(""), chooser("0"), (0, 1)])
        self.same(other == chooser, False)
        self.same(is_value_paper(table, (number, other, foe)), True)
        self.same(is_value_paper(table, (number, blended(chooser, other, weight=(1, 3)), foe)), True)
        unreached = Plan(2, 2, [foe(""), foe("0"), ((1, 3), (2, 3))])
        self.same(unreached == foe, False)
        self.same(is_value_paper(table, (number, chooser, unreached)), True)
        self.same(is_value_paper(table, (number, even_plan(2, 2), foe)), False)
        self.same(is_value_paper(table, (number, chooser, even_plan(2, 2))), False)

    def test_both_plans_must_reach_the_number(self):
        for width, rounds in SMALL_SHAPES:
            table = some_table(width, rounds, 2)
            value = wide_folds(table)[""]
            for seed in range(4):
                chooser, foe = some_plan(width, rounds, seed), some_plan(width, rounds, seed + 1)
                low, high = least_slack(chooser, table), worth(foe, table)
                for number in (low, high, pair(value)):
                    told = value_of(low) >= value_of(number) >= value_of(high)
                    self.same(is_value_paper(table, (number, chooser, foe)), told)
                self.same(is_value_paper(table, (low, chooser, wide_breaker(table))), value_of(low) == value)
                self.same(is_value_paper(table, (high, wide_keeper(table), foe)), value_of(high) == value)

    def test_plans_of_another_shape(self):
        for shape in [(2, 1), (2, 0), (3, 2), (1, 3)]:
            table = flat(*shape, 1)
            number, chooser, foe = wide_value_paper(table)
            for other in unlike(*shape):
                self.same(is_value_paper(table, (number, even_plan(*other), foe)), False)
                self.same(is_value_paper(table, (number, chooser, even_plan(*other))), False)
                self.same(is_value_paper(table, (number, even_plan(*other), even_plan(*other))), False)

    def test_values_that_are_no_numbers(self):
        table = some_table(2, 2)
        _, chooser, foe = value_paper(table)
        for wrong in NOT_NUMBERS:
            self.raises(BadNumber, {}, is_value_paper, table, (wrong, chooser, foe))
            self.raises(BadNumber, {}, is_value_paper, table, (wrong, even_plan(3, 1), foe))
            self.raises(BadNumber, {}, is_value_paper, table, (wrong, chooser, even_plan(2, 1)))


class Texts(Case):
    def test_texts(self):
        self.same(paper_text(((-2, 4), even_plan(2, 1), sure_plan(2, ""))), "paper -1/2\nplan 2 1\n- 1/2 1/2\nplan 2 0")
        self.same(paper_text((0, even_plan(1, 0), even_plan(1, 1))), "paper 0\nplan 1 0\nplan 1 1\n- 1")

    def test_texts_of_every_pair_of_shapes_are_read_back(self):
        numbers = some_numbers(len(EDGE_SHAPES), 5)
        for at, shape in enumerate(EDGE_SHAPES):
            for other in EDGE_SHAPES[at % 2::2]:
                chooser, foe = some_plan(*shape), some_plan(*other, 2)
                text = paper_text((numbers[at], chooser, foe))
                number = pair(value_of(numbers[at]))
                self.same(text, "\n".join([f"paper {value_of(number)}", plan_text(chooser), plan_text(foe)]))
                paper = read_paper(text)
                self.same((type(paper), len(paper), paper[0]), (tuple, 3, number))
                self.assertIs(type(paper[1]), Plan)
                self.same((paper[1] == chooser, paper[2] == foe), (True, True))

    def test_values_that_are_no_numbers(self):
        for wrong in NOT_NUMBERS:
            self.raises(BadNumber, {}, paper_text, (wrong, even_plan(2, 1), even_plan(2, 1)))

    def wrong(self, lines, line):
        with self.subTest(lines=lines[:4], many=len(lines)):
            self.raises(BadText, {"line": line}, read_paper, "\n".join(lines))

    def lines(self, first=(2, 2), second=(3, 1)):
        return paper_text(((1, 2), even_plan(*first), even_plan(*second))).split("\n")

    def test_wrong_first_lines(self):
        rest = self.lines()[1:]
        for first in (
            "", " ", "paper", "paper ", "paper  1", " paper 1", "paper 1 ", "paper 1 2", "paper 2/4", "paper 3/1", "paper -0",
            "paper +1", "paper 1/0", "paper 01", "paper x", "paper 1/2/3", "paper 0/1", "PAPER 1", "papers 1", "1 paper",
            "paper1", "paper .5", "paper -", "plan 2 2", "paper " + "1" * 4001, "paper 1/" + "1" * 4001, "- 1",
        ):
            for more in (rest, [], rest[:3], ["x"]):
                self.wrong([first, *more], 1)
        self.wrong(rest, 1)
        self.same(read_paper("\n".join(["paper -" + "1" * 4000, *rest]))[0], (-int("1" * 4000), 1))

    def test_texts_cut_short(self):
        for shapes in (((2, 2), (3, 1)), ((2, 0), (1, 0)), ((1, 3), (2, 0)), ((5, 2), (2, 3))):
            lines = self.lines(*shapes)
            for many in range(1, len(lines)):
                self.wrong(lines[:many], many + 1)

    def test_lines_left_out_doubled_and_moved(self):
        lines = self.lines()
        for at in range(1, len(lines)):
            self.wrong(lines[:at] + lines[at + 1:], at + 1)
            self.wrong(lines[:at] + ["", *lines[at:]], at + 1)
            self.wrong(lines[:at] + [lines[at - 1], *lines[at:]], at + 1)
        for more in ("", "x", "plan 2 0", "- 1/2 1/2", "paper 0"):
            self.wrong(lines + [more], len(lines) + 1)
            self.wrong(lines + [more] * 9, len(lines) + 1)

    def test_spoilt_lines(self):
        lines = self.lines()
        for at in range(1, len(lines)):
            line = lines[at]
            for other in ("", " " + line, line + " ", line + " 0", line[:-1], line.replace(" ", "  ", 1), "x", line + "x"):
                self.wrong(lines[:at] + [other] + lines[at + 1:], at + 1)
                self.wrong(lines[:at] + [other, "x"], at + 1)
        self.same(lines[1:6], ["plan 2 2", "- 1/2 1/2", "0 1/2 1/2", "1 1/2 1/2", "plan 3 1"])
        self.wrong(lines[:1] + ["plan 2 3"] + lines[2:], 6)
        self.wrong(lines[:1] + ["plan 2 1"] + lines[2:], 4)
        self.wrong(lines[:1] + ["plan 6 1"] + lines[2:], 2)
        self.wrong(lines[:1] + ["table 2 2"] + lines[2:], 2)
        self.wrong(lines[:2] + ["- 1/2 1/3"] + lines[3:], 3)
        self.wrong(lines[:5] + ["plan 3 0"] + lines[6:], 7)
        self.wrong(lines[:5] + ["plan 3 2"] + lines[6:], 8)
        self.wrong(lines[:5] + ["plan 3 6"] + lines[6:], 6)
        self.wrong(lines[:6] + ["- 1/3 1/3 2/3"], 7)
        self.wrong(lines[:1] + lines[5:] + lines[1:5] + ["x"], 8)

    def test_texts_that_are_no_papers(self):
        for text in ("", "\n", "plan 2 0", "table 2 0\n- 1", "x" * 50000, "\n" * 599, "paper"):
            self.raises(BadText, {"line": 1}, read_paper, text)


class AnyWidth(Case):
    def test_papers_of_every_shape(self):
        for width, rounds in SHAPES:
            table = some_table(width, rounds, 3)
            self.same(is_value_paper(table, wide_value_paper(table)), True)
            for row in texts(width, rounds)[:2]:
                self.same(slack_table(wide_keeper(table), table)(row), pair(slacks(wide_keeper(table), table)[row]))


if __name__ == "__main__":
    unittest.main()
