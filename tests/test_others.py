"""Points 61 and 62, and the section notbehind/others.py."""

import unittest
from fractions import Fraction

from model import cells_by_row, chance_of, misses_on
from notbehind.errors import BadCount, BadNumber, BadRow, BadSize, BadWeight, Mismatch, NoHelper
from notbehind.exact import mean
from notbehind.helpers import distance, farthest
from notbehind.others import (
    closest_rival, count_above, distance_table, first_rule, helper_weights, leaders_rule, most_rule, rivals, rows_at,
    same_rule, spread, spread_mean, weighed_spread, weights_rule,
)
from notbehind.misses import mean_under
from notbehind.plans import Plan, even_plan, ones_plan, sure_plan
from notbehind.tables import Table, flat
from samples import some_helpers, some_plan
from support import (
    EDGE_SHAPES, HUGE, NOT_NUMBERS, SHAPES, SMALL_SHAPES, Case, all_texts, inner_texts, pair, pairs, some_numbers,
    texts, value_of, wrong_texts,
)

SMALL = Fraction(1, 10 ** 25)
RULES = [
    ("first", first_rule), ("leaders", leaders_rule), ("same", same_rule), ("weights", weights_rule), ("most", most_rule),
]
RATES = [0, 1, (1, 2), (3, 4), (2, 6), (10 ** 25 - 1, 10 ** 25), (0, 7), (5, 5)]


def sure_helpers(*rows):
    return [sure_plan(2, row) for row in rows]


def values_at(helper, b):
    return [value_of(share) for share in helper(b)]


def leaders_at(helpers, b):
    misses = [misses_on(helper, b) for helper in helpers]
    return [helper for helper, value in zip(helpers, misses) if value == min(misses)]


def mean_at(helpers, b):
    return [sum(values) / Fraction(len(helpers)) for values in zip(*[values_at(helper, b) for helper in helpers])]


def weight_of(helper, b, rate):
    found = Fraction(1)
    for at, outcome in enumerate(b):
        found *= 1 - (1 - values_at(helper, b[:at])[int(outcome)]) * (1 - rate)
    return found


def weighed_at(helpers, b, rate):
    weights = [weight_of(helper, b, rate) for helper in helpers]
    if sum(weights) == 0:
        return mean_at(helpers, b)
    return [
        sum(weight * values_at(helper, b)[y] for weight, helper in zip(weights, helpers)) / sum(weights)
        for y in range(helpers[0].width)
    ]


def most_at(helpers, b):
    sums = [sum(values) for values in zip(*[values_at(helper, b) for helper in helpers])]
    return [Fraction(int(y == sums.index(max(sums)))) for y in range(len(sums))]


BY_HAND = {
    "first": lambda helpers, b: values_at(leaders_at(helpers, b)[0], b),
    "leaders": lambda helpers, b: mean_at(leaders_at(helpers, b), b),
    "same": mean_at,
    "weights": lambda helpers, b: weighed_at(helpers, b, Fraction(1, 2)),
    "most": most_at,
}


def distances_by_row(plan, helpers):
    return {
        row: misses_on(plan, row) - min(misses_on(helper, row) for helper in helpers)
        for row in texts(plan.width, plan.rounds)
    }


class Rules(Case):
    def test_each_chooser_on_every_shape(self):
        for width, rounds in SHAPES:
            for many in (1, 2, 5):
                helpers = some_helpers(width, rounds, many)
                for name, rule in RULES:
                    plan = rule(tuple(helpers))
                    self.assertIs(type(plan), Plan)
                    self.same((plan.width, plan.rounds), (width, rounds))
                    for b in inner_texts(width, rounds)[::5]:
                        with self.subTest(name=name, width=width, b=b):
                            self.same(list(plan(b)), pairs(BY_HAND[name](helpers, b)))

    def test_one_helper_and_equal_ones(self):
        for width, rounds in SMALL_SHAPES:
            helper = some_plan(width, rounds, 5)
            for many in (1, 2, 5):
                for _, rule in RULES[:4]:
                    self.same(rule([helper] * many) == helper, True)
                self.same(most_rule([helper] * many) == most_rule([helper]), True)

    def test_ties_of_leaders(self):
        helpers = sure_helpers("00", "01", "11")
        self.same(first_rule(helpers).shares, [((1, 1), (0, 1)), ((1, 1), (0, 1)), ((0, 1), (1, 1))])
        self.same(leaders_rule(helpers).shares, [((2, 3), (1, 3)), ((1, 2), (1, 2)), ((0, 1), (1, 1))])
        self.same(same_rule(helpers).shares, [((2, 3), (1, 3)), ((1, 3), (2, 3)), ((1, 3), (2, 3))])
        self.same(first_rule(helpers[::-1])(""), ((0, 1), (1, 1)))

    def test_leaders_by_misses_beside_each_other(self):
        near = pair(Fraction(1, 2) + SMALL)
        first = ones_plan(2, [(1, 2), 0, 0])
        second = ones_plan(2, [near, 1, 1])
        self.same(first_rule([first, second]).shares[1:], [((1, 1), (0, 1)), ((0, 1), (1, 1))])
        self.same(leaders_rule([first, second]).shares[1:], [((1, 1), (0, 1)), ((0, 1), (1, 1))])
        self.same(leaders_rule([first, first, second])("1"), ((0, 1), (1, 1)))

    def test_outcomes_that_tie(self):
        self.same(most_rule(sure_helpers("0", "1")).shares, [((1, 1), (0, 1))])
        self.same(most_rule(sure_helpers("1", "0")).shares, [((1, 1), (0, 1))])
        self.same(most_rule([even_plan(5, 1)])("")[0], (1, 1))
        self.same(most_rule([sure_plan(3, "2"), sure_plan(3, "1")])(""), ((0, 1), (1, 1), (0, 1)))
        self.same(most_rule([sure_plan(3, "2"), sure_plan(3, "1"), even_plan(3, 1), sure_plan(3, "2")])("")[2], (1, 1))
        beside = ones_plan(1, [pair(Fraction(1, 2) + SMALL)])
        self.same(most_rule([beside])(""), ((0, 1), (1, 1)))

    def test_0_rounds(self):
        for width in range(1, 6):
            for _, rule in RULES:
                self.same(rule([even_plan(width, 0)] * 2) == even_plan(width, 0), True)

    def test_no_rule_is_nearer_than_the_nearest_chooser(self):
        for width, rounds in SHAPES:
            helpers = some_helpers(width, rounds, 3, 6)
            for _, rule in RULES:
                self.assertGreaterEqual(value_of(farthest(rule(helpers), helpers)[0]), value_of(distance(helpers)))


class Weights(Case):
    def test_weights_of_each_rate(self):
        for width, rounds in SMALL_SHAPES:
            helpers = some_helpers(width, rounds, 3, 2)
            for rate in RATES:
                plan = weights_rule(helpers, rate=rate)
                for b in inner_texts(width, rounds):
                    self.same(list(plan(b)), pairs(weighed_at(helpers, b, value_of(rate))))
                for b in all_texts(width, rounds):
                    expected = pairs([weight_of(helper, b, value_of(rate)) for helper in helpers])
                    self.same(helper_weights(tuple(helpers), b, rate=rate), expected)

    def test_weights_of_one_helper_and_equal_ones(self):
        for many in (1, 5):
            self.same(helper_weights([sure_plan(2, "00")] * many, "01", rate=(1, 3)), [(1, 3)] * many)
            self.same(helper_weights([even_plan(3, 0)] * many, ""), [(1, 1)] * many)

    def test_weights_on_long_rows(self):
        for width, rounds in EDGE_SHAPES:
            helpers = some_helpers(width, rounds, 5, 3)
            for b in all_texts(width, rounds)[::17]:
                expected = pairs([weight_of(helper, b, Fraction(1, 3)) for helper in helpers])
                self.same(helper_weights(helpers, b, rate=(1, 3)), expected)

    def test_a_half_is_the_default(self):
        helpers = some_helpers(2, 3, 3)
        self.same(weights_rule(helpers) == weights_rule(helpers, rate=(1, 2)), True)
        self.same(weights_rule(helpers) == weights_rule(helpers, rate=(1, 3)), False)
        self.same(helper_weights(helpers, "011"), helper_weights(helpers, "011", rate=(2, 4)))
        self.same(helper_weights(sure_helpers("000", "111"), "011"), [(1, 4), (1, 2)])
        self.same(helper_weights(sure_helpers("000", "111"), ""), [(1, 1), (1, 1)])

    def test_rate_1_is_same_and_rate_0_leaves_those_that_never_missed(self):
        for width, rounds in SMALL_SHAPES:
            helpers = some_helpers(width, rounds, 4, 2)
            self.same(weights_rule(helpers, rate=1) == same_rule(helpers), True)
            self.same(weights_rule(helpers, rate=(3, 3)) == same_rule(helpers), True)
        helpers = sure_helpers("001", "011", "010")
        plan = weights_rule(helpers, rate=0)
        self.same(plan("0"), ((1, 3), (2, 3)))
        self.same(plan("00"), ((0, 1), (1, 1)))
        self.same(plan("01"), ((1, 2), (1, 2)))

    def test_weights_that_are_all_0(self):
        helpers = sure_helpers("001", "011", "010")
        plan = weights_rule(helpers, rate=0)
        self.same(helper_weights(helpers, "1", rate=0), [(0, 1)] * 3)
        self.same(helper_weights(helpers, "111", rate=0), [(0, 1)] * 3)
        for b in ("1", "10", "11"):
            self.same(plan(b), same_rule(helpers)(b))

    def test_wrong_rates(self):
        helpers = sure_helpers("00", "11")
        for wrong in (-1, 2, pair(-SMALL), pair(1 + SMALL), HUGE, -HUGE, (3, 2), (-1, 9)):
            self.raises(BadWeight, {}, weights_rule, helpers, rate=wrong)
            self.raises(BadWeight, {}, helper_weights, helpers, "0", rate=wrong)
            self.raises(BadWeight, {}, weights_rule, [even_plan(1, 0)], rate=wrong)
        for wrong in NOT_NUMBERS:
            self.raises(BadNumber, {}, weights_rule, helpers, rate=wrong)
            self.raises(BadNumber, {}, helper_weights, helpers, "0", rate=wrong)
        self.same(helper_weights(helpers, "0", rate=pair(1 - SMALL)), [(1, 1), pair(1 - SMALL)])

    def test_the_list_then_the_beginning_then_the_rate(self):
        for rate in (None, 2, (1, 2)):
            for b in ("x", "000", "0"):
                self.raises(NoHelper, {}, helper_weights, [], b, rate=rate)
                self.raises(Mismatch, {}, helper_weights, [even_plan(2, 2), even_plan(2, 1)], b, rate=rate)
            for b in [*wrong_texts(2), "000", "0" * 99]:
                if b not in all_texts(2, 2):
                    self.raises(BadRow, {"found": b}, helper_weights, sure_helpers("00", "11"), b, rate=rate)
            self.raises(NoHelper, {}, weights_rule, [], rate=rate)

    def test_lists_are_new(self):
        self.new_list(lambda: helper_weights(sure_helpers("00", "11"), "0"))


class Rivals(Case):
    def test_names_distances_and_rows(self):
        for width, rounds in SMALL_SHAPES:
            for many in (1, 2, 5):
                helpers = some_helpers(width, rounds, many, 4)
                expected = []
                for name, rule in RULES:
                    found = distances_by_row(rule(helpers), helpers)
                    most = max(found.values())
                    expected.append((name, pair(most), next(row for row, value in found.items() if value == most)))
                self.same(rivals(tuple(helpers)), expected)
                least = min(value_of(rival[1]) for rival in expected)
                self.same(closest_rival(helpers), next(rival for rival in expected if value_of(rival[1]) == least))

    def test_rivals_that_tie(self):
        helpers = sure_helpers("00", "11")
        found = rivals(helpers)
        self.same(found[0], ("first", (1, 1), "10"))
        self.same(found[1], ("leaders", (1, 2), "00"))
        self.same(closest_rival(helpers), found[1])
        self.same(closest_rival([even_plan(3, 2)] * 3), ("first", (0, 1), "00"))
        self.same(closest_rival([even_plan(1, 0)]), ("first", (0, 1), ""))

    def test_each_of_the_five_is_the_closest_somewhere(self):
        found = set()
        for width, rounds in [(2, 2), (2, 3), (3, 2)]:
            for seed in range(12):
                for many in (2, 3, 5):
                    found.add(closest_rival(some_helpers(width, rounds, many, seed))[0])
        self.assertGreater(len(found), 2)

    def test_lists_are_new(self):
        self.new_list(lambda: rivals(sure_helpers("00", "11")))

    def test_distance_tables(self):
        for width, rounds in SHAPES:
            helpers, plan = some_helpers(width, rounds, 3, 2), some_plan(width, rounds, 9)
            table = distance_table(plan, tuple(helpers))
            self.assertIs(type(table), Table)
            self.same(table.cells, pairs(distances_by_row(plan, helpers).values()))
        for shape in SHAPES:
            if shape != (2, 2):
                self.raises(Mismatch, {}, distance_table, even_plan(*shape), [even_plan(2, 2)])
        self.raises(NoHelper, {}, distance_table, even_plan(2, 2), [])

    def test_wrong_lists(self):
        calls = [rule for _, rule in RULES] + [rivals, closest_rival, lambda helpers: weights_rule(helpers, rate=9)]
        calls += [lambda helpers: helper_weights(helpers, "x", rate=9), lambda helpers: distance_table(even_plan(5, 3), helpers)]
        for call in calls:
            self.raises(NoHelper, {}, call, [])
            for many in (6, 600):
                self.raises(BadCount, {"found": many, "low": 1, "high": 5}, call, [even_plan(2, 1)] * many)
            for other in ((2, 1), (3, 2), (2, 3)):
                self.raises(Mismatch, {}, call, [even_plan(2, 2)] * 4 + [even_plan(*other)])

    def test_lists_stay_as_they_were(self):
        helpers = sure_helpers("00", "11")
        for _, rule in RULES:
            rule(helpers)
        rivals(helpers)
        self.assertEqual(len(helpers), 2)


class Spreads(Case):
    def test_spreads_of_every_shape(self):
        for width, rounds in SHAPES:
            table = Table(width, rounds, some_numbers(width ** rounds, 3))
            cells = list(cells_by_row(table).values())
            expected = [(pair(value), cells.count(value)) for value in sorted(set(cells))]
            self.same(spread(table), expected)
            self.same(spread_mean(spread(table)), mean(table.cells))

    def test_by_hand(self):
        self.same(spread(Table(2, 2, [1, (2, 4), 1, (-3, 6)])), [((-1, 2), 1), ((1, 2), 1), ((1, 1), 2)])
        self.same(spread(flat(2, 3, (4, 6))), [((2, 3), 8)])
        self.same(spread(flat(5, 0, 0)), [((0, 1), 1)])
        self.same(spread(Table(2, 1, [(1, 3), pair(Fraction(1, 3) - SMALL)])), [(pair(Fraction(1, 3) - SMALL), 1), ((1, 3), 1)])
        self.same(spread(Table(2, 1, [HUGE, (HUGE * 3 - 1, 3)])), [((HUGE * 3 - 1, 3), 1), ((HUGE, 1), 1)])
        self.same(spread(Table(2, 1, [(-1, 3), (-1, 2)])), [((-1, 2), 1), ((-1, 3), 1)])
        self.new_list(lambda: spread(flat(2, 2, 1)))

    def test_weighed_spreads(self):
        for width, rounds in SHAPES:
            table = Table(width, rounds, some_numbers(width ** rounds, 3))
            for foe in (some_plan(width, rounds, 2), sure_plan(width, "0" * rounds), even_plan(width, rounds)):
                sums = {}
                for row, cell in cells_by_row(table).items():
                    sums[cell] = sums.get(cell, 0) + chance_of(foe, row)
                expected = [(pair(value), pair(sums[value])) for value in sorted(sums) if sums[value] != 0]
                self.same(weighed_spread(foe, table), expected)
                told = sum((value_of(value) * value_of(part) for value, part in weighed_spread(foe, table)), Fraction(0))
                self.same(pair(told), mean_under(foe, table))

    def test_weighed_by_hand(self):
        table = Table(2, 1, [5, -5])
        self.same(weighed_spread(sure_plan(2, "1"), table), [((-5, 1), (1, 1))])
        self.same(weighed_spread(ones_plan(1, [(1, 3)]), table), [((-5, 1), (1, 3)), ((5, 1), (2, 3))])
        self.same(weighed_spread(even_plan(2, 0), flat(2, 0, 7)), [((7, 1), (1, 1))])
        self.new_list(lambda: weighed_spread(even_plan(2, 1), table))
        for shape in SHAPES:
            if shape != (2, 1):
                self.raises(Mismatch, {}, weighed_spread, even_plan(*shape), table)

    def test_means(self):
        self.same(spread_mean([(1, 1)]), (1, 1))
        self.same(spread_mean([(5, 1), ((1, 2), 3), (5, 2)]), (11, 4))
        self.same(spread_mean(((2, 6), (3, 5))), (27, 11))
        self.same(spread_mean([(-1, 4), ((2, 4), 4), (-1, 4)]), (-1, 2))
        self.same(spread_mean([(0, HUGE), (HUGE, 1), (1, HUGE)]), (2 * HUGE, 2 * HUGE + 1))
        self.same(spread_mean([((HUGE, HUGE + 1), 600)] * 600), (HUGE, HUGE + 1))
        self.raises(BadSize, {"found": 0, "due": 1}, spread_mean, [])
        self.raises(BadSize, {"found": 0, "due": 1}, spread_mean, ())
        for wrong in NOT_NUMBERS:
            self.raises(BadNumber, {}, spread_mean, [(wrong, 1)])
            self.raises(BadNumber, {}, spread_mean, [(1, 1), (wrong, 1)])
        told = [(5, 1), (6, 2)]
        spread_mean(told)
        self.same(told, [(5, 1), (6, 2)])


class Cells(Case):
    def test_rows_and_counts(self):
        for width, rounds in SHAPES:
            table = Table(width, rounds, some_numbers(width ** rounds, 2))
            cells = cells_by_row(table)
            for value in {0, Fraction(1, 2), *list(cells.values())[:3]}:
                for beside in (-SMALL, 0, SMALL):
                    number = Fraction(value) + beside
                    self.same(rows_at(table, pair(number)), [row for row, cell in cells.items() if cell == number])
                    self.same(count_above(table, pair(number)), sum(1 for cell in cells.values() if cell > number))

    def test_numbers_in_any_form(self):
        table = Table(2, 2, [1, (1, 2), 0, (3, 3)])
        for number in (1, (1, 1), (7, 7), (HUGE, HUGE)):
            self.same(rows_at(table, number), ["00", "11"])
            self.same(count_above(table, number), 0)
        for number in ((1, 2), (2, 4)):
            self.same(rows_at(table, number), ["01"])
            self.same(count_above(table, number), 2)
        self.same(count_above(table, (-1, HUGE)), 4)
        self.same(rows_at(table, (1, HUGE)), [])
        self.same(rows_at(flat(5, 0, 3), 3), [""])
        self.new_list(lambda: rows_at(table, 1))

    def test_values_that_are_no_numbers(self):
        for wrong in NOT_NUMBERS:
            self.raises(BadNumber, {}, rows_at, flat(2, 1, 0), wrong)
            self.raises(BadNumber, {}, count_above, flat(2, 1, 0), wrong)


if __name__ == "__main__":
    unittest.main()
