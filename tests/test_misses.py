"""Points 19 to 21, and the section notbehind/misses.py."""

import itertools
import unittest
from fractions import Fraction

from notbehind.errors import BadRow, Mismatch
from notbehind.misses import (
    best_reply, chance, chances, even_misses, first_over, keeps, least_misses, mean_misses, mean_under, miss,
    miss_steps, misses_table, reached, row_misses,
)
from notbehind.plans import Plan, even_plan, ones_plan, sure_plan
from notbehind.tables import Table, changed, flat, raised
from samples import some_plan
from support import (
    EDGE_SHAPES, SHAPES, SMALL_SHAPES, Case, all_texts, inner_texts, pair, pairs, some_numbers, texts, wrong_texts,
)

TINY = (1, 10 ** 30)


def share(plan, beginning, outcome):
    return Fraction(*plan(beginning)[int(outcome)])


def steps(plan, text):
    return [1 - share(plan, text[:at], outcome) for at, outcome in enumerate(text)]


def chance_of(foe, text):
    found = Fraction(1)
    for at, outcome in enumerate(text):
        found *= share(foe, text[:at], outcome)
    return found


class Misses(Case):
    def test_the_example_of_the_document(self):
        self.same(list(misses_table(ones_plan(1, [(1, 4)]))), [(1, 4), (3, 4)])

    def test_misses_of_every_shape(self):
        for width, rounds in SHAPES:
            plan = some_plan(width, rounds)
            with self.subTest(width=width, rounds=rounds):
                for beginning in inner_texts(width, rounds):
                    for outcome in texts(width, 1):
                        self.same(miss(plan, beginning, outcome), pair(1 - share(plan, beginning, outcome)))
                for beginning in all_texts(width, rounds):
                    self.same(row_misses(plan, beginning), pair(sum(steps(plan, beginning))))
                table = misses_table(plan)
                self.assertIs(type(table), Table)
                self.same((table.width, table.rounds), (width, rounds))
                self.same(table.cells, pairs(sum(steps(plan, row)) for row in texts(width, rounds)))
                for row in texts(width, rounds):
                    self.same(miss_steps(plan, row), pairs(steps(plan, row)))

    def test_no_misses_on_the_empty_beginning_and_in_width_1(self):
        for width, rounds in SHAPES:
            self.same(row_misses(some_plan(width, rounds), ""), (0, 1))
        for rounds in range(9):
            plan = some_plan(1, rounds)
            self.same(misses_table(plan).cells, [(0, 1)])
            self.same(miss_steps(plan, "0" * rounds), [(0, 1)] * rounds)
        self.same(misses_table(even_plan(3, 0)).cells, [(0, 1)])
        self.same(miss_steps(even_plan(3, 0), ""), [])

    def test_sure_and_even_plans(self):
        self.same(misses_table(sure_plan(2, "01")).cells, pairs([1, 0, 2, 1]))
        self.same(misses_table(even_plan(5, 3)).cells, [(12, 5)] * 125)
        self.same(miss(sure_plan(3, "2"), "", "2"), (0, 1))
        self.same(miss(sure_plan(3, "2"), "", "0"), (1, 1))

    def test_the_list_of_steps_is_new(self):
        self.new_list(lambda: miss_steps(even_plan(2, 2), "01"))

    def test_wrong_texts(self):
        for width, rounds in EDGE_SHAPES:
            plan = some_plan(width, rounds)
            for text in [*wrong_texts(width), "0" * (rounds + 1), "0" * 100]:
                with self.subTest(width=width, rounds=rounds, text=text[:10]):
                    self.raises(BadRow, {"found": text}, miss, plan, text, "0")
                    self.raises(BadRow, {"found": text}, miss, plan, text, "x")
                    self.raises(BadRow, {"found": text}, row_misses, plan, text)
                    self.raises(BadRow, {"found": text}, miss_steps, plan, text)
                    self.raises(BadRow, {"found": text}, chance, plan, text)
            self.raises(BadRow, {"found": "0" * rounds}, miss, plan, "0" * rounds, "0")
            if rounds > 0:
                self.raises(BadRow, {"found": "0" * (rounds - 1)}, miss_steps, plan, "0" * (rounds - 1))
                for text in [*wrong_texts(width), "", "00", "0" * 9]:
                    self.raises(BadRow, {"found": text}, miss, plan, "", text)


class Chances(Case):
    def test_chances_of_every_shape(self):
        for width, rounds in SHAPES:
            foe = some_plan(width, rounds)
            rows = texts(width, rounds)
            with self.subTest(width=width, rounds=rounds):
                for beginning in all_texts(width, rounds):
                    self.same(chance(foe, beginning), pair(chance_of(foe, beginning)))
                table = chances(foe)
                self.assertIs(type(table), Table)
                self.same((table.width, table.rounds), (width, rounds))
                self.same(table.cells, pairs(chance_of(foe, row) for row in rows))
                self.assertEqual(sum(Fraction(*cell) for cell in table), 1)
                self.same(reached(foe), [row for row in rows if chance_of(foe, row) > 0])

    def test_beginnings_that_are_not_reached(self):
        foe = Plan(2, 2, [[0, 1], [(1, 2), (1, 2)], [(1, 3), (2, 3)]])
        self.same([chance(foe, text) for text in ("", "0", "1", "00", "01", "10", "11")], [
            (1, 1), (0, 1), (1, 1), (0, 1), (0, 1), (1, 3), (2, 3),
        ])
        self.same(reached(foe), ["10", "11"])
        self.same(reached(sure_plan(3, "201")), ["201"])
        self.same(reached(even_plan(2, 0)), [""])
        self.same(chance(even_plan(4, 0), ""), (1, 1))
        self.new_list(lambda: reached(foe))


class Means(Case):
    def test_mean_under_a_foe(self):
        for width, rounds in SHAPES:
            foe = some_plan(width, rounds)
            table = Table(width, rounds, some_numbers(width ** rounds, 4))
            expected = sum(chance_of(foe, row) * Fraction(*table(row)) for row in texts(width, rounds))
            self.same(mean_under(foe, table), pair(expected))

    def test_mean_misses_and_least_misses(self):
        for width, rounds in SHAPES:
            foe, chooser = some_plan(width, rounds, 2), some_plan(width, rounds, 3)
            rows = texts(width, rounds)
            expected = sum(chance_of(foe, row) * sum(steps(chooser, row)) for row in rows)
            lowest = sum(
                chance_of(foe, beginning) * (1 - max(Fraction(*part) for part in foe(beginning)))
                for beginning in inner_texts(width, rounds)
            )
            with self.subTest(width=width, rounds=rounds):
                self.same(mean_misses(chooser, foe), pair(expected))
                self.same(least_misses(foe), pair(lowest))
                self.same(mean_misses(best_reply(foe), foe), pair(lowest))
                self.assertGreaterEqual(expected, lowest)

    def test_no_sure_chooser_has_lesser_mean_misses(self):
        for width, rounds in ((2, 2), (3, 1)):
            foe = some_plan(width, rounds, 5)
            lowest = Fraction(*least_misses(foe))
            places = len(inner_texts(width, rounds))
            found = []
            for told in itertools.product(range(width), repeat=places):
                chooser = Plan(width, rounds, [[int(y == outcome) for y in range(width)] for outcome in told])
                found.append(Fraction(*mean_misses(chooser, foe)))
            self.assertEqual(min(found), lowest)

    def test_even_misses_of_every_shape(self):
        for width, rounds in SHAPES:
            self.same(even_misses(width, rounds), pair(rounds * (1 - Fraction(1, width))))
            even = even_plan(width, rounds)
            self.same(mean_misses(some_plan(width, rounds), even), even_misses(width, rounds))
            self.same(least_misses(even), even_misses(width, rounds))
        self.wrong_shapes(even_misses)

    def test_unlike_shapes(self):
        for first, second in itertools.permutations([(1, 1), (1, 2), (2, 1), (2, 2), (4, 1), (2, 0), (3, 0)], 2):
            with self.subTest(first=first, second=second):
                plan, table = even_plan(*first), flat(*second, 0)
                self.raises(Mismatch, {}, mean_under, plan, table)
                self.raises(Mismatch, {}, first_over, plan, table)
                self.raises(Mismatch, {}, keeps, plan, table)
                self.raises(Mismatch, {}, mean_misses, plan, even_plan(*second))


class Replies(Case):
    def test_the_greatest_share_and_the_least_of_several(self):
        for width, rounds in SHAPES:
            foe = some_plan(width, rounds, 6)
            reply = best_reply(foe)
            self.assertIs(type(reply), Plan)
            self.same((reply.width, reply.rounds), (width, rounds))
            for beginning in inner_texts(width, rounds):
                told = [Fraction(*part) for part in foe(beginning)]
                best = told.index(max(told))
                self.same(reply(beginning), tuple((int(y == best), 1) for y in range(width)))

    def test_ties(self):
        self.same(best_reply(even_plan(3, 1))(""), ((1, 1), (0, 1), (0, 1)))
        foe = Plan(3, 1, [[(1, 5), (2, 5), (2, 5)]])
        self.same(best_reply(foe)(""), ((0, 1), (1, 1), (0, 1)))
        foe = Plan(3, 1, [[(2, 5), (1, 5), (2, 5)]])
        self.same(best_reply(foe)(""), ((1, 1), (0, 1), (0, 1)))
        foe = Plan(2, 1, [[pair(Fraction(1, 2) - Fraction(*TINY)), pair(Fraction(1, 2) + Fraction(*TINY))]])
        self.same(best_reply(foe)(""), ((0, 1), (1, 1)))

    def test_beginnings_that_are_not_reached_have_a_reply_too(self):
        foe = Plan(2, 2, [[1, 0], [(1, 3), (2, 3)], [(1, 4), (3, 4)]])
        self.same(best_reply(foe).shares, [((1, 1), (0, 1)), ((0, 1), (1, 1)), ((0, 1), (1, 1))])
        self.same(least_misses(foe), (1, 3))


class Keeping(Case):
    def test_misses_that_equal_the_cells_are_kept(self):
        for width, rounds in SHAPES:
            plan = some_plan(width, rounds)
            table = misses_table(plan)
            self.same(first_over(plan, table), None)
            self.same(keeps(plan, table), True)
            self.same(first_over(plan, raised(table, TINY)), None)
            self.same(first_over(plan, raised(table, (-1, 10 ** 30))), "0" * rounds)
            self.same(keeps(plan, raised(table, (-1, 10 ** 30))), False)

    def test_one_row_over(self):
        for width, rounds in SMALL_SHAPES:
            plan = some_plan(width, rounds)
            table = misses_table(plan)
            for row in texts(width, rounds):
                less = changed(table, row, pair(Fraction(*table(row)) - Fraction(*TINY)))
                self.same(first_over(plan, less), row)
                self.same(keeps(plan, less), False)
                more = changed(table, row, pair(Fraction(*table(row)) + Fraction(*TINY)))
                self.same(first_over(plan, more), None)
                self.same(keeps(plan, more), True)

    def test_the_first_of_several_rows(self):
        plan = sure_plan(2, "00")
        self.same(misses_table(plan).cells, pairs([0, 1, 1, 2]))
        self.same(first_over(plan, Table(2, 2, [0, 1, 0, 0])), "10")
        self.same(first_over(plan, Table(2, 2, [0, 0, 1, 0])), "01")
        self.same(first_over(plan, Table(2, 2, [5, 5, 5, 0])), "11")


class NothingChanges(Case):
    def test_plans_and_tables_stay_as_they_were(self):
        plan, foe = some_plan(2, 3, 1), some_plan(2, 3, 2)
        table = misses_table(plan)
        cells = table.cells
        for call in (misses_table, chances, reached, least_misses, best_reply):
            call(plan)
        mean_under(foe, table)
        mean_misses(plan, foe)
        keeps(plan, table)
        self.same(plan == some_plan(2, 3, 1), True)
        self.same(foe == some_plan(2, 3, 2), True)
        self.same(table.cells, cells)


if __name__ == "__main__":
    unittest.main()
