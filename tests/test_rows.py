"""Points 8 and 12 to 14, and the section notbehind/rows.py."""

import itertools
import unittest

from notbehind.errors import BadCount, BadRow
from notbehind.rows import (
    all_beginnings, back_order, beginnings_of, futures, is_row, letters, most_rounds, number_of, place_of, renamed,
    row_at, rows_of, shared_beginning, span_of,
)
from support import (
    HUGE, MOST_ROUNDS, SHAPES, Case, all_texts, inner_texts, texts, wrong_counts, wrong_texts,
)

WIDTHS = [1, 2, 3, 4, 5]

# Each call takes rounds and a width, beside arguments that are right in every shape.
WITH_ROUNDS = [
    ("is_row", lambda rounds, **width: is_row("", rounds, **width)),
    ("rows_of", rows_of),
    ("beginnings_of", beginnings_of),
    ("all_beginnings", all_beginnings),
    ("row_at", lambda rounds, **width: row_at(0, rounds, **width)),
    ("span_of", lambda rounds, **width: span_of("", rounds, **width)),
    ("futures", lambda rounds, **width: futures("", rounds, **width)),
]
# The same with every other argument wrong, to see that width and rounds go first.
WITH_ROUNDS_AND_WRONG = [
    ("row_at", lambda rounds, **width: row_at(-1, rounds, **width)),
    ("row_at with a bool", lambda rounds, **width: row_at(True, rounds, **width)),
    ("span_of", lambda rounds, **width: span_of("x", rounds, **width)),
    ("futures", lambda rounds, **width: futures("x" * 20, rounds, **width)),
    ("is_row", lambda rounds, **width: is_row("x", rounds, **width)),
]


class Widths(Case):
    def test_most_rounds_and_letters(self):
        self.same([most_rounds(width) for width in WIDTHS], [8, 8, 5, 4, 3])
        self.same([letters(width) for width in WIDTHS], ["0", "01", "012", "0123", "01234"])

    def test_wrong_widths(self):
        for wrong in wrong_counts(1, 5):
            told = {"found": wrong, "low": 1, "high": 5}
            with self.subTest(wrong=wrong):
                self.raises(BadCount, told, most_rounds, wrong)
                self.raises(BadCount, told, letters, wrong)
                self.raises(BadCount, told, place_of, "", width=wrong)
                self.raises(BadCount, told, number_of, "", width=wrong)
                self.raises(BadCount, told, place_of, "x" * 9, width=wrong)
                self.raises(BadCount, told, number_of, "x" * 9, width=wrong)
                for name, call in WITH_ROUNDS + WITH_ROUNDS_AND_WRONG:
                    for rounds in (0, -1, 9, True):
                        with self.subTest(name=name, rounds=rounds):
                            self.raises(BadCount, told, call, rounds, width=wrong)

    def test_the_width_goes_ahead_of_all_others(self):
        self.raises(BadCount, {"found": 7, "low": 1, "high": 5}, row_at, -1, 9, width=7)


class Rounds(Case):
    def test_wrong_rounds_for_each_width(self):
        for width in WIDTHS:
            for wrong in wrong_counts(0, MOST_ROUNDS[width]):
                told = {"found": wrong, "low": 0, "high": MOST_ROUNDS[width]}
                for name, call in WITH_ROUNDS + WITH_ROUNDS_AND_WRONG:
                    with self.subTest(width=width, wrong=wrong, name=name):
                        self.raises(BadCount, told, call, wrong, width=width)

    def test_the_width_is_2_if_none_is_passed(self):
        for name, call in WITH_ROUNDS:
            with self.subTest(name=name):
                self.same(call(8), call(8, width=2))
                self.raises(BadCount, {"found": 9, "low": 0, "high": 8}, call, 9)
        self.same(place_of("11111111"), 255)
        self.same(number_of("11111111"), 510)
        self.raises(BadRow, {"found": "2"}, place_of, "2")
        self.raises(BadRow, {"found": "2"}, number_of, "2")

    def test_the_width_is_passed_by_keyword_only(self):
        for call in (
            lambda: rows_of(1, 2), lambda: beginnings_of(1, 2), lambda: all_beginnings(1, 2), lambda: place_of("0", 2),
            lambda: number_of("0", 2), lambda: row_at(0, 1, 2), lambda: span_of("0", 1, 2), lambda: futures("0", 1, 2),
            lambda: is_row("0", 1, 2),
        ):
            with self.assertRaises(TypeError):
                call()


    def test_a_bool_is_no_count_behind_an_equal_call_either(self):
        for name, call in WITH_ROUNDS:
            with self.subTest(name=name):
                call(1, width=1)
                call(0, width=1)
                self.raises(BadCount, {"found": True, "low": 0, "high": 8}, call, True, width=1)
                self.raises(BadCount, {"found": False, "low": 0, "high": 8}, call, False, width=1)
                self.raises(BadCount, {"found": True, "low": 1, "high": 5}, call, 1, width=True)


class RowsAndBeginnings(Case):
    def test_the_example_of_the_document(self):
        self.same(beginnings_of(2), ["", "0", "1"])
        self.same(number_of("10"), 5)

    def test_lists_of_every_shape(self):
        for width, rounds in SHAPES:
            with self.subTest(width=width, rounds=rounds):
                self.same(rows_of(rounds, width=width), texts(width, rounds))
                self.same(beginnings_of(rounds, width=width), inner_texts(width, rounds))
                self.same(all_beginnings(rounds, width=width), all_texts(width, rounds))

    def test_games_of_no_round_and_of_width_1(self):
        for width in WIDTHS:
            self.same(rows_of(0, width=width), [""])
            self.same(beginnings_of(0, width=width), [])
            self.same(all_beginnings(0, width=width), [""])
            self.same(row_at(0, 0, width=width), "")
            self.same(span_of("", 0, width=width), (0, 1))
            self.same(futures("", 0, width=width), [""])
        self.same(rows_of(8, width=1), ["00000000"])
        self.same(beginnings_of(3, width=1), ["", "0", "00"])

    def test_each_list_is_new(self):
        for call in (
            lambda: rows_of(3), lambda: rows_of(0), lambda: beginnings_of(3), lambda: beginnings_of(0),
            lambda: all_beginnings(2, width=3), lambda: futures("0", 2), lambda: futures("01", 2),
        ):
            self.new_list(call)

    def test_is_row(self):
        for width, rounds in SHAPES:
            rows = texts(width, rounds)
            for text in rows:
                self.same(is_row(text, rounds, width=width), True)
            for text in [*wrong_texts(width), rows[0] + "0", rows[-1][:-1], rows[0][1:] + "x", "0" * 9, "0" * 50000]:
                with self.subTest(width=width, rounds=rounds, text=text[:10]):
                    self.same(is_row(text, rounds, width=width), text in rows)
        self.same(is_row("2", 1), False)
        self.same(is_row("", 0), True)
        self.same(is_row("", 1), False)
        self.same(is_row("01", 3), False)
        self.same(is_row("010", 3), True)
        self.same(is_row("0101", 3), False)


class Places(Case):
    def test_places_and_numbers_of_every_shape(self):
        for width, rounds in SHAPES:
            everything = all_texts(width, rounds)
            for at, text in enumerate(everything):
                self.same(number_of(text, width=width), at)
            for place, row in enumerate(texts(width, rounds)):
                self.same(place_of(row, width=width), place)
                self.same(row_at(place, rounds, width=width), row)

    def test_texts_that_are_too_long_or_have_another_character(self):
        for width in WIDTHS:
            for text in [*wrong_texts(width), "0" * (MOST_ROUNDS[width] + 1), "0" * 50000]:
                with self.subTest(width=width, text=text[:10]):
                    self.raises(BadRow, {"found": text}, place_of, text, width=width)
                    self.raises(BadRow, {"found": text}, number_of, text, width=width)

    def test_wrong_places(self):
        for width, rounds in SHAPES:
            high = width ** rounds - 1
            for wrong in wrong_counts(0, high):
                with self.subTest(width=width, rounds=rounds, wrong=wrong):
                    told = {"found": wrong, "low": 0, "high": high}
                    self.raises(BadCount, told, row_at, wrong, rounds, width=width)

    def test_only_place_0_for_no_round_or_width_1(self):
        for width, rounds in [(1, 0), (1, 1), (1, 8), (5, 0)]:
            self.same(row_at(0, rounds, width=width), "0" * rounds)
            self.raises(BadCount, {"found": 1, "low": 0, "high": 0}, row_at, 1, rounds, width=width)


class Spans(Case):
    def test_spans_and_futures_of_every_beginning(self):
        for width, rounds in SHAPES:
            rows = texts(width, rounds)
            for beginning in all_texts(width, rounds):
                expected = [row for row in rows if row.startswith(beginning)]
                self.same(futures(beginning, rounds, width=width), expected)
                self.same(span_of(beginning, rounds, width=width), (rows.index(expected[0]), len(expected)))

    def test_texts_that_are_no_beginning(self):
        for width, rounds in SHAPES:
            for text in [*wrong_texts(width), "0" * (rounds + 1), "0" * 50000]:
                with self.subTest(width=width, rounds=rounds, text=text[:10]):
                    self.raises(BadRow, {"found": text}, span_of, text, rounds, width=width)
                    self.raises(BadRow, {"found": text}, futures, text, rounds, width=width)


class SharedBeginnings(Case):
    def test_any_two_texts(self):
        for first, second, expected in [
            ("", "", ""), ("", "0", ""), ("0", "", ""), ("0", "1", ""), ("01", "01", "01"), ("01", "010", "01"),
            ("010", "01", "01"), ("0110", "0101", "01"), ("abc", "abd", "ab"), ("x y", "x z", "x "), ("10", "00", ""),
            ("100", "010", ""), ("0" * 900, "0" * 800 + "1", "0" * 800), ("aXb", "aYb", "a"),
        ]:
            with self.subTest(first=first[:10], second=second[:10]):
                self.same(shared_beginning(first, second), expected)


class Orders(Case):
    def test_orders_of_each_width(self):
        for width in WIDTHS:
            outcomes = "01234"[:width]
            for order in ("".join(letters) for letters in itertools.permutations(outcomes)):
                back = back_order(order)
                with self.subTest(order=order):
                    for at, outcome in enumerate(outcomes):
                        self.same(renamed(order, outcome), order[at])
                        self.same(renamed(back, order[at]), outcome)
                    self.same(renamed(order, outcomes[:MOST_ROUNDS[width]]), order[:MOST_ROUNDS[width]])
                    self.same(back_order(back), order)

    def test_examples(self):
        self.same(renamed("120", "0012"), "1120")
        self.same(back_order("120"), "201")
        self.same(renamed("10", "00110101"), "11001010")
        self.same(renamed("0", "00000000"), "00000000")
        self.same(renamed("43210", "014"), "430")

    def test_each_text_of_a_width_is_renamed_letter_by_letter(self):
        for order in ("10", "201", "3012", "24130"):
            width = len(order)
            for length in range(min(MOST_ROUNDS[width], 3) + 1):
                for text in texts(width, length):
                    self.same(renamed(order, text), "".join(order[int(letter)] for letter in text))
            self.same(renamed(order, ""), "")

    def test_texts_that_are_no_order(self):
        for text in [
            "", "1", "2", "00", "11", "02", "12", "20", "001", "011", "013", "123", "0122", "1234", "01233", "12345",
            "012345", "0123450", "a", "01a", " ", "0 ", " 0", "0 1", "-", "00000", "01235", "5", "9", "0" * 1000,
        ]:
            with self.subTest(text=text[:10]):
                self.raises(BadRow, {"found": text}, back_order, text)
                self.raises(BadRow, {"found": text}, renamed, text, "0")
                self.raises(BadRow, {"found": text}, renamed, text, "xyz")

    def test_wrong_texts_to_rename(self):
        for order in ("0", "10", "201", "3012", "24130"):
            width = len(order)
            for text in [*wrong_texts(width), "0" * (MOST_ROUNDS[width] + 1), "0" * 50000, "0" * HUGE.bit_length()]:
                with self.subTest(order=order, text=text[:10]):
                    self.raises(BadRow, {"found": text}, renamed, order, text)


if __name__ == "__main__":
    unittest.main()
