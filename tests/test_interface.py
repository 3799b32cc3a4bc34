"""Points 2 and 3: each name of the interface is defined where it is listed, with its arguments as written."""

import importlib
import inspect
import unittest

INTERFACE = {
    "exact": [
        "fraction(value)", "add(left, right)", "sub(left, right)", "mul(left, right)", "div(left, right)",
        "negate(value)", "compare(left, right)", "total(values)", "mean(values)", "least(values)", "greatest(values)",
        "clamp(value, low, high)", "blend(first, second, *, weight)", "dot(weights, values)", "whole_below(value)",
        "whole_above(value)",
    ],
    "words": [
        "number_text(value)", "read_number(text)", "is_name(text)", "check_name(text)", "split_line(line)",
        "join_words(words)",
    ],
    "rows": [
        "most_rounds(width)", "letters(width)", "is_row(text, rounds, *, width=2)", "rows_of(rounds, *, width=2)",
        "beginnings_of(rounds, *, width=2)", "all_beginnings(rounds, *, width=2)", "place_of(row, *, width=2)",
        "row_at(place, rounds, *, width=2)", "number_of(beginning, *, width=2)",
        "span_of(beginning, rounds, *, width=2)", "futures(beginning, rounds, *, width=2)",
        "shared_beginning(first, second)", "renamed(order, text)", "back_order(order)",
    ],
}

METHODS = {}


class Interface(unittest.TestCase):
    def test_functions_and_classes(self):
        for file, entries in INTERFACE.items():
            module = importlib.import_module(f"notbehind.{file}")
            for entry in entries:
                name, bracket, arguments = entry.partition("(")
                with self.subTest(file=file, entry=entry):
                    thing = getattr(module, name)
                    self.assertEqual(thing.__module__, f"notbehind.{file}")
                    self.assertEqual(str(inspect.signature(thing)), bracket + arguments)

    def test_methods_stand_in_the_class_itself(self):
        for (file, name), methods in METHODS.items():
            thing = getattr(importlib.import_module(f"notbehind.{file}"), name)
            for method in methods:
                with self.subTest(name=name, method=method):
                    self.assertIn(method, vars(thing))


if __name__ == "__main__":
    unittest.main()
