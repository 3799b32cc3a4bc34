"""Points 46 and 47, and the section notbehind/switches.py."""

import itertools
import unittest
from fractions import Fraction

from model import wide_folds
from notbehind.errors import BadCount, BadRow, BadSize, Mismatch, NoHelper
from notbehind.filling import wide_breaker, wide_keeper
from notbehind.helpers import best_misses, best_table, distance, farthest
from notbehind.misses import row_misses
from notbehind.plans import Plan, even_plan, sure_plan
from notbehind.switches import (
    best_path, is_best, path_misses, path_plan, switch_chooser, switch_distance, switch_foe, switch_misses,
    switch_table, switches_in,
)
from notbehind.tables import Table
from samples import some_helpers
from support import (
    EDGE_SHAPES, HUGE, SHAPES, Case, inner_texts, pair, pairs, texts, value_of, wrong_counts, wrong_texts,
)

SHORT = [(1, 0), (1, 2), (2, 0), (2, 1), (2, 2), (2, 3), (3, 2), (4, 1), (5, 2)]
TABLES = [switch_table, switch_distance, switch_chooser, switch_foe]
ROWS = [switch_misses, best_path]


def sure_helpers(*rows):
    return [sure_plan(2, row) for row in rows]


def paths(many, rounds):
    """All paths, ascending."""
    return [list(path) for path in itertools.product(range(many), repeat=rounds)]


def switches_of(path):
    return sum(1 for first, second in zip(path, path[1:]) if first != second)


def misses_of(helpers, row, path):
    return sum((1 - value_of(helpers[h](row[:at])[int(row[at])]) for at, h in enumerate(path)), Fraction(0))


def best_by_hand(helpers, row, allowed):
    """The switch misses, and all paths that have them with the allowed switches, ascending."""
    found = [path for path in paths(len(helpers), len(row)) if switches_of(path) <= allowed]
    least = min(misses_of(helpers, row, path) for path in found)
    return least, [path for path in found if misses_of(helpers, row, path) == least]


class Paths(Case):
    def test_switches_in_paths(self):
        for path, expected in (
            ([], 0), ([3], 0), ([0, 0, 0], 0), ([0, 1], 1), ([0, 1, 0], 2), ([1, 1, 0, 0, 1], 2), ((0, 1, 2, 2), 2),
            ([-5, -5, 10 ** 40, 7], 2), (tuple(range(8)), 7),
        ):
            self.same(switches_in(path), expected)
        for path in paths(3, 4):
            self.same(switches_in(path), switches_of(path))
        self.same(switches_in([0, 1] * 300), 599)

    def test_misses_and_plans_of_paths_of_each_length(self):
        for width, rounds in SHORT:
            for many in (1, 2, 3):
                helpers = some_helpers(width, rounds, many)
                for path in paths(many, rounds):
                    plan = path_plan(helpers, path)
                    self.assertIs(type(plan), Plan)
                    self.same((plan.width, plan.rounds), (width, rounds))
                    self.same(plan.shares, [helpers[path[len(b)]](b) for b in inner_texts(width, rounds)])
                    for row in texts(width, rounds):
                        expected = pair(misses_of(helpers, row, path))
                        self.same(path_misses(helpers, row, path), expected)
                        self.same(path_misses(tuple(helpers), row, tuple(path)), expected)
                        self.same(row_misses(plan, row), expected)

    def test_the_empty_path(self):
        self.same(path_misses([even_plan(2, 0)], "", []), (0, 1))
        self.same(path_plan([even_plan(3, 0)], []) == even_plan(3, 0), True)
        self.same(best_path([even_plan(2, 0)] * 2, "", switches=0), [])
        self.same(switch_misses([even_plan(2, 0)] * 2, ""), (0, 1))
        self.same(is_best([even_plan(2, 0)], "", [], switches=0), True)

    def test_equal_helpers_count_as_two(self):
        helpers = [even_plan(2, 2)] * 2
        self.same(is_best(helpers, "01", [0, 1], switches=0), False)
        self.same(is_best(helpers, "01", [1, 1], switches=0), True)
        self.same(is_best(helpers, "01", [0, 1]), True)

    def test_wrong_paths(self):
        for width, rounds in EDGE_SHAPES:
            helpers = some_helpers(width, rounds, 3)
            row = "0" * rounds
            calls = [
                lambda path: path_misses(helpers, row, path), lambda path: path_plan(helpers, path),
                lambda path: is_best(helpers, row, path), lambda path: is_best(helpers, row, path, switches=9),
            ]
            for call in calls:
                for many in (0, rounds - 1, rounds + 1, 600):
                    if many != rounds and many >= 0:
                        self.raises(BadSize, {"found": many, "due": rounds}, call, [HUGE] * many)
                for at in range(rounds):
                    for wrong in wrong_counts(0, 2):
                        path = [0] * rounds
                        path[at] = wrong
                        self.raises(BadCount, {"found": wrong, "low": 0, "high": 2}, call, path)
                        self.raises(BadCount, {"found": wrong, "low": 0, "high": 2}, call, path[:at + 1] + [99] * (rounds - at - 1))
        self.raises(BadCount, {"found": 1, "low": 0, "high": 0}, path_plan, [even_plan(2, 1)], [1])
        self.raises(BadCount, {"found": 5, "low": 0, "high": 4}, path_plan, [even_plan(2, 1)] * 5, [5])


class BestPaths(Case):
    def test_switch_misses_and_the_first_of_the_best_paths(self):
        for width, rounds in SHORT + [(2, 4)]:
            for many in (1, 2, 3):
                helpers = some_helpers(width, rounds, many, 2)
                for row in texts(width, rounds)[::3]:
                    for allowed in range(rounds + 2):
                        least, best = best_by_hand(helpers, row, allowed)
                        with self.subTest(width=width, row=row, many=many, allowed=allowed):
                            self.same(switch_misses(helpers, row, switches=allowed), pair(least))
                            self.same(best_path(helpers, row, switches=allowed), best[0])
                            for path in paths(many, rounds):
                                told = is_best(helpers, row, path, switches=allowed)
                                self.same(told, path in best)

    def test_ties_among_sure_helpers(self):
        choices = [sure_helpers("000", "111", "010"), sure_helpers("111", "000"), sure_helpers("001", "001", "110")]
        for helpers in choices:
            for row in texts(2, 3):
                for allowed in range(4):
                    least, best = best_by_hand(helpers, row, allowed)
                    self.same(switch_misses(helpers, row, switches=allowed), pair(least))
                    self.same(best_path(helpers, row, switches=allowed), best[0])

    def test_the_best_path_need_not_have_the_fewest_switches(self):
        helpers = sure_helpers("000", "001")
        self.same(best_path(helpers, "001", switches=1), [0, 0, 1])
        self.same(best_path(helpers, "001", switches=0), [1, 1, 1])
        self.same(is_best(helpers, "001", [1, 1, 1], switches=1), True)
        helpers = sure_helpers("0000", "0110")
        self.same(best_path(helpers, "0110", switches=2), [0, 1, 1, 0])
        self.same(best_path(helpers, "0110", switches=1), [0, 1, 1, 1])

    def test_one_switch_is_the_default(self):
        helpers = sure_helpers("0000", "1111")
        for row in texts(2, 4):
            self.same(switch_misses(helpers, row), switch_misses(helpers, row, switches=1))
            self.same(best_path(helpers, row), best_path(helpers, row, switches=1))
            for path in paths(2, 4):
                self.same(is_best(helpers, row, path), is_best(helpers, row, path, switches=1))
        self.same(switch_misses(helpers, "0011"), (0, 1))
        self.same(switch_misses(helpers, "0101"), (1, 1))
        self.same(switch_misses(helpers, "0101", switches=3), (0, 1))
        self.same(switch_table(helpers) == switch_table(helpers, switches=1), True)
        self.same(switch_distance(helpers), switch_distance(helpers, switches=1))
        self.same(switch_chooser(helpers) == switch_chooser(helpers, switches=1), True)
        self.same(switch_foe(helpers) == switch_foe(helpers, switches=1), True)

    def test_long_rows(self):
        helpers = sure_helpers("0" * 8, "1" * 8)
        for row in ("01010101", "00110011", "10000001", "11111111"):
            for allowed in range(9):
                least, best = best_by_hand(helpers, row, allowed)
                self.same(switch_misses(helpers, row, switches=allowed), pair(least))
                self.same(best_path(helpers, row, switches=allowed), best[0])

    def test_more_switches_than_changes_change_nothing(self):
        for width, rounds in SHAPES:
            helpers = some_helpers(width, rounds, 2)
            row = "0" * rounds
            for allowed in range(max(rounds - 1, 0), 9):
                most = max(rounds - 1, 0)
                self.same(switch_misses(helpers, row, switches=allowed), switch_misses(helpers, row, switches=most))
                self.same(best_path(helpers, row, switches=allowed), best_path(helpers, row, switches=most))
            self.same(switch_misses(helpers, row, switches=0), best_misses(helpers, row))

    def test_lists_are_new(self):
        self.new_list(lambda: best_path(sure_helpers("00", "11"), "01"))


class Tables(Case):
    def test_tables_of_every_shape(self):
        for width, rounds in SHAPES:
            for many in (1, 2, 5):
                helpers = some_helpers(width, rounds, many)
                for allowed in (0, 1, 2, 8):
                    table = switch_table(tuple(helpers), switches=allowed)
                    self.assertIs(type(table), Table)
                    self.same((table.width, table.rounds), (width, rounds))
                    for row in texts(width, rounds)[::9]:
                        self.same(table(row), switch_misses(helpers, row, switches=allowed))

    def test_tables_by_hand(self):
        for width, rounds in SHORT:
            helpers = some_helpers(width, rounds, 2, 4)
            for allowed in range(4):
                expected = [best_by_hand(helpers, row, allowed)[0] for row in texts(width, rounds)]
                self.same(switch_table(helpers, switches=allowed).cells, pairs(expected))

    def test_0_allowed_switches_beside_the_best_table(self):
        for width, rounds in SHAPES:
            helpers = some_helpers(width, rounds, 3)
            self.same(switch_table(helpers, switches=0) == best_table(helpers), True)
            self.same(switch_distance(helpers, switches=0), distance(helpers))

    def test_distances_choosers_and_foes(self):
        for width, rounds in SHORT:
            helpers = some_helpers(width, rounds, 3, 2)
            for allowed in (0, 1, 2, 8):
                table = switch_table(helpers, switches=allowed)
                self.same(switch_distance(helpers, switches=allowed), pair(-wide_folds(table)[""]))
                chooser, foe = switch_chooser(helpers, switches=allowed), switch_foe(helpers, switches=allowed)
                self.same((type(chooser), type(foe)), (Plan, Plan))
                self.same((chooser == wide_keeper(table), foe == wide_breaker(table)), (True, True))
        self.same(switch_distance(sure_helpers("00", "11")), (1, 1))
        self.same(switch_distance(sure_helpers("00", "11"), switches=0), (1, 2))
        helpers = sure_helpers("000", "111")
        self.same(farthest(switch_chooser(helpers, switches=0), helpers)[0], distance(helpers))


class WrongArguments(Case):
    def calls(self, helpers):
        for call in ROWS:
            for row in ("", "x" * 9):
                for switches in (0, 9):
                    yield lambda call=call, row=row, switches=switches: call(helpers, row, switches=switches)
        for call in TABLES:
            for switches in (0, 9):
                yield lambda call=call, switches=switches: call(helpers, switches=switches)
        for row in ("", "x" * 9):
            yield lambda row=row: path_misses(helpers, row, [99] * 9)
            yield lambda row=row: is_best(helpers, row, [99] * 9, switches=9)
        yield lambda: path_plan(helpers, [99] * 9)

    def test_wrong_lists(self):
        for call in self.calls([]):
            self.raises(NoHelper, {}, call)
        for many in (6, 600):
            for call in self.calls([even_plan(2, 1)] * many):
                self.raises(BadCount, {"found": many, "low": 1, "high": 5}, call)
        for many in range(2, 6):
            for at in range(many):
                for other in ((2, 1), (3, 2), (1, 2)):
                    helpers = [even_plan(2, 2)] * many
                    helpers[at] = even_plan(*other)
                    for call in self.calls(helpers):
                        self.raises(Mismatch, {}, call)

    def test_wrong_rows(self):
        for width, rounds in EDGE_SHAPES:
            helpers = some_helpers(width, rounds, 2)
            for row in [*wrong_texts(width), "0" * (rounds + 1), "0" * 99] + ["0" * (rounds - 1)] * (rounds > 0):
                if row not in texts(width, rounds):
                    for switches in (1, 9):
                        for call in ROWS:
                            self.raises(BadRow, {"found": row}, call, helpers, row, switches=switches)
                        self.raises(BadRow, {"found": row}, is_best, helpers, row, [9], switches=switches)
                    self.raises(BadRow, {"found": row}, path_misses, helpers, row, [9])

    def test_wrong_numbers_of_switches(self):
        for width, rounds in EDGE_SHAPES:
            helpers = some_helpers(width, rounds, 2)
            for wrong in wrong_counts(0, 8):
                told = {"found": wrong, "low": 0, "high": 8}
                for call in ROWS:
                    self.raises(BadCount, told, call, helpers, "0" * rounds, switches=wrong)
                for call in TABLES:
                    self.raises(BadCount, told, call, helpers, switches=wrong)
                self.raises(BadCount, told, is_best, helpers, "0" * rounds, [0] * rounds, switches=wrong)

    def test_lists_stay_as_they_were(self):
        helpers, path = sure_helpers("00", "11"), [0, 1]
        path_misses(helpers, "01", path)
        path_plan(helpers, path)
        is_best(helpers, "01", path)
        switch_table(helpers)
        self.same(path, [0, 1])
        self.assertEqual(len(helpers), 2)


if __name__ == "__main__":
    unittest.main()
