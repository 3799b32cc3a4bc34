"""Points 3, 5 and 7, and the section notbehind/exact.py."""

import itertools
import unittest
from fractions import Fraction

from notbehind import exact
from notbehind.errors import BadNumber, BadSize, BadWeight, DivisionByZero, Mismatch
from notbehind.exact import (
    add, blend, clamp, compare, div, dot, fraction, greatest, least, mean, mul, negate, sub, total, whole_above,
    whole_below,
)
from support import NOT_NUMBERS, Case, pair, some_numbers, value_of

LONG = 10 ** 39 + 7
OTHER_LONG = 10 ** 39 + 9
NUMBERS = [
    0, 1, -1, 2, -3, 12, (0, 1), (0, 5), (1, 1), (4, 2), (-4, 2), (6, 4), (-6, 4), (1, 2), (-1, 2), (2, 3), (-7, 2),
    (10, 15), (3, 3), (-9, 3), LONG, (LONG, OTHER_LONG), (-LONG, 2 * LONG), (3 * LONG, 6 * OTHER_LONG), (1, LONG),
]
PAIRS = list(itertools.product(NUMBERS, repeat=2))


class Fractions(Case):
    def test_every_form_of_a_number(self):
        for value, expected in [
            (0, (0, 1)), (7, (7, 1)), (-7, (-7, 1)), ((0, 9), (0, 1)), ((6, 4), (3, 2)), ((-6, 4), (-3, 2)),
            ((4, 2), (2, 1)), ((-4, 2), (-2, 1)), ((5, 1), (5, 1)), ((1, 3), (1, 3)), ((-10, 15), (-2, 3)),
        ]:
            with self.subTest(value=value):
                self.same(fraction(value), expected)

    def test_parts_of_40_and_of_4000_digits(self):
        self.same(fraction((6 * LONG, 4 * LONG)), (3, 2))
        self.same(fraction((LONG, OTHER_LONG)), pair(Fraction(LONG, OTHER_LONG)))
        long = 10 ** 3999 + 1
        self.same(fraction((-3 * long, long)), (-3, 1))
        self.same(fraction(long), (long, 1))

    def test_parts_of_5000_digits_that_the_program_returned(self):
        half = (10 ** 2500 + 1, 10 ** 2500 - 1)
        square = mul(half, half)
        expected = pair(Fraction(*half) ** 2)
        self.assertGreater(square[0], 10 ** 4999)
        self.same(square, expected)
        self.same(fraction(square), expected)
        self.same(add(square, square), pair(2 * Fraction(*expected)))
        self.same(sub(square, square), (0, 1))
        self.same(div(square, square), (1, 1))
        self.same(div(square, half), half)
        self.same(negate(square), (-expected[0], expected[1]))
        self.same(compare(square, half), 1)
        self.same(total([square, negate(square), 1]), (1, 1))
        self.same(greatest([half, square]), expected)
        self.same(whole_below(square), 1)
        self.same(whole_above(square), 2)


class Sums(Case):
    def test_the_example_of_the_document(self):
        self.same(add((1, 2), (2, 3)), (7, 6))
        self.same(whole_below((-7, 2)), -4)

    def test_two_numbers(self):
        for left, right in PAIRS:
            first, second = value_of(left), value_of(right)
            with self.subTest(left=left, right=right):
                self.same(add(left, right), pair(first + second))
                self.same(sub(left, right), pair(first - second))
                self.same(mul(left, right), pair(first * second))
                self.same(compare(left, right), (first > second) - (first < second))

    def test_division(self):
        for left, right in PAIRS:
            with self.subTest(left=left, right=right):
                if value_of(right) == 0:
                    self.raises(DivisionByZero, {}, div, left, right)
                else:
                    self.same(div(left, right), pair(value_of(left) / value_of(right)))

    def test_one_number(self):
        for value in NUMBERS:
            with self.subTest(value=value):
                self.same(negate(value), pair(-value_of(value)))
                self.same(whole_below(value), value_of(value).__floor__())
                self.same(whole_above(value), value_of(value).__ceil__())

    def test_whole_numbers_beside_a_number(self):
        for value, low, high in [
            ((7, 2), 3, 4), ((-7, 2), -4, -3), ((1, 100), 0, 1), ((-1, 100), -1, 0), (3, 3, 3), ((-6, 2), -3, -3),
            (0, 0, 0), ((10 ** 40 + 1, 10), 10 ** 39, 10 ** 39 + 1),
        ]:
            with self.subTest(value=value):
                self.same(whole_below(value), low)
                self.same(whole_above(value), high)


class Lists(Case):
    def test_values_of_every_length(self):
        for many in (1, 2, 3, 10, 300, 600):
            values = some_numbers(many)
            told = [value_of(value) for value in values]
            for kept in (list(values), tuple(values)):
                with self.subTest(many=many, kind=type(kept)):
                    self.same(total(kept), pair(sum(told)))
                    self.same(mean(kept), pair(sum(told) / many))
                    self.same(least(kept), pair(min(told)))
                    self.same(greatest(kept), pair(max(told)))

    def test_many_unlike_lower_parts(self):
        values = [(1, at) for at in range(1, 401)]
        self.same(total(values), pair(sum(Fraction(1, at) for at in range(1, 401))))

    def test_no_values(self):
        for nothing in ([], ()):
            self.same(total(nothing), (0, 1))
            self.same(dot(nothing, nothing), (0, 1))
            for function in (mean, least, greatest):
                with self.subTest(function=function):
                    self.raises(BadSize, {"found": 0, "due": 1}, function, nothing)

    def test_a_tuple_that_looks_like_a_number_is_a_list(self):
        self.same(total((1, 2)), (3, 1))
        self.same(mean((1, 2)), (3, 2))
        self.same(least((3, 2)), (2, 1))
        self.same(greatest((1, 2)), (2, 1))
        self.same(dot((1, 2), (3, 4)), (11, 1))

    def test_the_place_of_the_least_and_the_greatest_does_not_matter(self):
        for values in itertools.permutations([-1, (1, 2), (2, 3), 0]):
            self.same(least(values), (-1, 1))
            self.same(greatest(values), (2, 3))
        self.same(least([-5, -6]), (-6, 1))
        self.same(greatest([-6, -5]), (-5, 1))
        self.same(least([(4, 6)]), (2, 3))
        self.same(greatest([(4, 6)]), (2, 3))

    def test_dot(self):
        for many in (1, 2, 5, 300):
            weights, values = some_numbers(many, 3), some_numbers(many, 4)
            expected = sum(value_of(weight) * value_of(value) for weight, value in zip(weights, values))
            self.same(dot(weights, values), pair(expected))
            self.same(dot(tuple(weights), values), pair(expected))
            self.same(dot(weights, tuple(values)), pair(expected))

    def test_dot_of_unlike_lengths(self):
        self.raises(BadSize, {"found": 1, "due": 2}, dot, [1, 2], [1])
        self.raises(BadSize, {"found": 2, "due": 1}, dot, [1], [1, 2])
        self.raises(BadSize, {"found": 0, "due": 1}, dot, [1], [])
        self.raises(BadSize, {"found": 1, "due": 0}, dot, [], [1])

    def test_lists_stay_as_they_were(self):
        values = [(4, 2), 3, (-6, 4), 0]
        weights = [2, (2, 4), 1, (0, 3)]
        for function in (total, mean, least, greatest):
            function(values)
        dot(weights, values)
        self.same(values, [(4, 2), 3, (-6, 4), 0])
        self.same(weights, [2, (2, 4), 1, (0, 3)])


class ClampAndBlend(Case):
    def test_clamp(self):
        for value, low, high in itertools.product([-2, (-1, 2), 0, (2, 4), 1, (9, 4)], repeat=3):
            told, bottom, top = value_of(value), value_of(low), value_of(high)
            with self.subTest(value=value, low=low, high=high):
                if bottom > top:
                    self.raises(Mismatch, {}, clamp, value, low, high)
                else:
                    self.same(clamp(value, low, high), pair(min(max(told, bottom), top)))

    def test_blend(self):
        for first, second in [(0, 1), (1, 0), ((1, 2), (-7, 3)), (-4, -4), ((6, 4), LONG)]:
            for weight in (0, 1, (0, 3), (5, 5), (1, 2), (2, 6), (LONG, OTHER_LONG), (OTHER_LONG - 1, OTHER_LONG)):
                expected = (1 - value_of(weight)) * value_of(first) + value_of(weight) * value_of(second)
                with self.subTest(first=first, second=second, weight=weight):
                    self.same(blend(first, second, weight=weight), pair(expected))

    def test_weights_beside_the_limits(self):
        for weight in (-1, 2, (-1, 10 ** 30), (10 ** 30 + 1, 10 ** 30), 10 ** 40, -10 ** 40):
            with self.subTest(weight=weight):
                self.raises(BadWeight, {}, blend, 0, 0, weight=weight)


class NoNumbers(Case):
    def test_each_argument_that_is_a_number(self):
        for wrong in NOT_NUMBERS:
            with self.subTest(wrong=wrong):
                for function in (fraction, negate, whole_below, whole_above):
                    self.raises(BadNumber, {}, function, wrong)
                for function in (add, sub, mul, div, compare):
                    self.raises(BadNumber, {}, function, wrong, 1)
                    self.raises(BadNumber, {}, function, 1, wrong)
                for args in ((wrong, 0, 1), (0, wrong, 1), (0, 0, wrong)):
                    self.raises(BadNumber, {}, clamp, *args)
                self.raises(BadNumber, {}, blend, wrong, 1, weight=0)
                self.raises(BadNumber, {}, blend, 1, wrong, weight=0)
                self.raises(BadNumber, {}, blend, 1, 1, weight=wrong)

    def test_each_item_of_a_list(self):
        for wrong in NOT_NUMBERS:
            with self.subTest(wrong=wrong):
                for values in ([wrong], [wrong, 1], [1, wrong], (1, wrong, 1), [1] * 300 + [wrong]):
                    for function in (total, mean, least, greatest):
                        self.raises(BadNumber, {}, function, values)
                    self.raises(BadNumber, {}, dot, values, [1] * len(values))
                    self.raises(BadNumber, {}, dot, [1] * len(values), values)
                    self.raises(BadNumber, {}, dot, [0] * len(values), values)


class EqualCalls(Case):
    def test_equal_numbers_have_equal_answers_but_a_bool_is_none(self):
        for function in (fraction, negate, whole_below, whole_above):
            for one in (1, (1, 1), (3, 3)):
                self.same(function(one), function(1))
                self.raises(BadNumber, {}, function, True)
        for function in (add, sub, mul, div, compare):
            self.same(function(1, 1), function((2, 2), (5, 5)))
            self.raises(BadNumber, {}, function, True, 1)
            self.raises(BadNumber, {}, function, 1, True)
        for function in (total, mean, least, greatest):
            self.same(function([1]), function([(4, 4)]))
            self.raises(BadNumber, {}, function, [True])


class WhichErrorGoesFirst(Case):
    def test_numbers_go_ahead_of_what_they_are_compared_with(self):
        self.raises(BadNumber, {}, div, None, 0)
        self.raises(BadNumber, {}, clamp, None, 2, 1)
        self.raises(BadNumber, {}, clamp, 0, None, 1)
        self.raises(BadNumber, {}, clamp, 0, 2, True)
        self.raises(Mismatch, {}, clamp, (3, 2), 2, 1)
        self.raises(BadNumber, {}, blend, None, 1, weight=2)
        self.raises(BadNumber, {}, blend, 1, None, weight=2)

    def test_weights_go_ahead_of_the_number_of_values_and_that_ahead_of_the_values(self):
        self.raises(BadNumber, {}, dot, [1, None], [1])
        self.raises(BadNumber, {}, dot, [None], [])
        self.raises(BadSize, {"found": 1, "due": 2}, dot, [1, 2], [None])
        self.raises(BadSize, {"found": 3, "due": 2}, dot, [1, 2], [1, 2, None])


class Keywords(Case):
    def test_the_weight_is_passed_by_keyword_only(self):
        with self.assertRaises(TypeError):
            exact.blend(1, 2, (1, 2))


if __name__ == "__main__":
    unittest.main()
