"""Points 38 to 40, and the section notbehind/helpers.py."""

import unittest
from fractions import Fraction

from model import folds_of, misses_on, two_step, wide_folds
from notbehind.errors import BadCount, BadNumber, BadRow, Mismatch, NoHelper
from notbehind.filling import wide_breaker, wide_keeper
from notbehind.folding import breaker, fold, keeper
from notbehind.helpers import (
    best_helpers, best_misses, best_table, distance, distance_paper, farthest, first_best, hard_foe, helper_misses,
    is_distance_paper, is_within, nearest_chooser, tight_for,
)
from notbehind.misses import least_misses, mean_under
from notbehind.papers import is_value_paper
from notbehind.plans import Plan, blended, even_plan, sure_plan
from notbehind.tables import Table
from samples import some_helpers, some_plan
from support import EDGE_SHAPES, NOT_NUMBERS, SHAPES, SMALL_SHAPES, Case, pair, pairs, texts, value_of, wrong_texts

SMALL = Fraction(1, 10 ** 25)
LISTS = [
    ("helper_misses", helper_misses), ("best_misses", best_misses), ("best_helpers", best_helpers),
    ("first_best", first_best),
]
WHOLE = [best_table, distance, nearest_chooser, hard_foe, distance_paper]


def best_by_row(helpers):
    first = helpers[0]
    return {row: min(misses_on(helper, row) for helper in helpers) for row in texts(first.width, first.rounds)}


def distances_by_row(plan, helpers):
    return {row: misses_on(plan, row) - best for row, best in best_by_row(helpers).items()}


class Examples(Case):
    def test_the_example_of_the_document(self):
        helpers = [sure_plan(2, "00"), sure_plan(2, "11")]
        self.same(list(best_table(helpers)), [(0, 1), (1, 1), (1, 1), (0, 1)])
        self.same(distance(helpers), (1, 2))


class Best(Case):
    def test_misses_of_every_shape(self):
        for width, rounds in SHAPES:
            for many in (1, 2, 5):
                helpers = some_helpers(width, rounds, many)
                for row in texts(width, rounds)[::7]:
                    found = [misses_on(helper, row) for helper in helpers]
                    best = [at for at, misses in enumerate(found) if misses == min(found)]
                    self.same(helper_misses(helpers, row), pairs(found))
                    self.same(best_misses(helpers, row), pair(min(found)))
                    self.same(best_helpers(helpers, row), best)
                    self.same(first_best(helpers, row), best[0])
                table = best_table(tuple(helpers))
                self.assertIs(type(table), Table)
                self.same((table.width, table.rounds), (width, rounds))
                self.same(table.cells, pairs(best_by_row(helpers).values()))

    def test_ties(self):
        helpers = [sure_plan(2, "00"), sure_plan(2, "01"), sure_plan(2, "10"), even_plan(2, 2), sure_plan(2, "01")]
        self.same(helper_misses(helpers, "01"), pairs([1, 0, 2, 1, 0]))
        self.same((best_helpers(helpers, "01"), first_best(helpers, "01")), ([1, 4], 1))
        self.same((best_helpers(helpers, "11"), first_best(helpers, "11")), ([1, 2, 3, 4], 1))
        self.same((best_helpers(helpers, "00"), first_best(helpers, "00")), ([0], 0))
        self.same(best_misses(helpers, "11"), (1, 1))
        same = [even_plan(3, 2)] * 5
        self.same((best_helpers(same, "20"), first_best(same, "20")), ([0, 1, 2, 3, 4], 0))
        self.same(best_helpers([even_plan(2, 0)] * 2, ""), [0, 1])
        self.same(best_misses([even_plan(2, 0)], ""), (0, 1))

    def test_lists_are_new_and_lists_passed_stay_as_they_were(self):
        helpers = [sure_plan(2, "00"), sure_plan(2, "11")]
        kept = list(helpers)
        self.new_list(lambda: helper_misses(helpers, "01"))
        self.new_list(lambda: best_helpers(helpers, "01"))
        self.new_list(lambda: tight_for(even_plan(2, 2), helpers))
        for call in WHOLE:
            call(helpers)
        self.assertEqual(len(helpers), 2)
        self.assertIs(helpers[0], kept[0])
        self.assertIs(helpers[1], kept[1])


class Distances(Case):
    def test_distances_of_every_shape(self):
        for width, rounds in SHAPES:
            helpers = some_helpers(width, rounds, 3)
            table = best_table(helpers)
            value = -wide_folds(table)[""]
            self.same(distance(helpers), pair(value))
            self.assertGreaterEqual(value, 0)
            chooser, foe = nearest_chooser(helpers), hard_foe(helpers)
            self.same((type(chooser), type(foe)), (Plan, Plan))
            self.same((chooser == wide_keeper(table), foe == wide_breaker(table)), (True, True))
            self.same(farthest(chooser, helpers)[0], pair(value))
            self.assertEqual(value_of(least_misses(foe)), value_of(mean_under(foe, table)) + value)

    def test_width_2_by_point_26(self):
        for rounds in range(6):
            helpers = some_helpers(2, rounds, 4, 2)
            table = best_table(helpers)
            self.same(distance(helpers), pair(-folds_of(table, lambda levels: two_step(*levels)[0])[""]))
            self.same(distance(helpers), pair(-value_of(fold(table))))
            self.same(nearest_chooser(helpers) == keeper(table), True)
            self.same(hard_foe(helpers) == breaker(table), True)

    def test_one_helper(self):
        for width, rounds in SHAPES:
            for helper in (some_plan(width, rounds, 4), even_plan(width, rounds), sure_plan(width, "0" * rounds)):
                for helpers in ([helper], [helper] * 2, [helper] * 5):
                    self.same(distance(helpers), (0, 1))
                    self.same(nearest_chooser(helpers) == helper, True)

    def test_further_helpers_never_lessen_the_distance(self):
        for width, rounds in SMALL_SHAPES:
            helpers = some_helpers(width, rounds, 5, 2)
            found = [value_of(distance(helpers[:many])) for many in range(1, 6)]
            self.assertEqual(found, sorted(found))
            self.same(distance(helpers[:3] + helpers[1:2]), distance(helpers[:3]))
            self.same(distance(helpers[2::-1]), distance(helpers[:3]))

    def test_sure_helpers_by_hand(self):
        self.same(distance([sure_plan(2, "0"), sure_plan(2, "1")]), (1, 2))
        self.same(distance([sure_plan(3, "0"), sure_plan(3, "1"), sure_plan(3, "2")]), (2, 3))
        self.same(distance([sure_plan(2, row) for row in ("00", "01", "10", "11")]), (1, 1))
        self.same(distance([sure_plan(5, outcome) for outcome in "01234"]), (4, 5))
        self.same(distance([even_plan(2, 0)] * 3), (0, 1))

    def test_the_distance_of_a_chooser(self):
        for width, rounds in SHAPES:
            helpers = some_helpers(width, rounds, 2)
            plan = some_plan(width, rounds, 9)
            found = distances_by_row(plan, helpers)
            most = max(found.values())
            row = next(row for row, value in found.items() if value == most)
            answer = farthest(plan, helpers)
            self.same(answer, (pair(most), row))
            self.same(is_within(plan, helpers, pair(most)), True)
            self.same(is_within(plan, helpers, pair(most + SMALL)), True)
            self.same(is_within(plan, helpers, pair(most - SMALL)), False)
            self.assertGreaterEqual(most, value_of(distance(helpers)))

    def test_the_first_row_of_several(self):
        self.same(farthest(even_plan(2, 2), [sure_plan(2, "01"), sure_plan(2, "10")]), ((1, 1), "01"))
        self.same(farthest(sure_plan(2, "0"), [sure_plan(2, "0"), sure_plan(2, "1")]), ((1, 1), "1"))
        self.same(farthest(even_plan(3, 1), [even_plan(3, 1)]), ((0, 1), "0"))

    def test_distances_below_0(self):
        self.same(is_within(even_plan(2, 0), [even_plan(2, 0)], 0), True)
        self.same(is_within(even_plan(2, 0), [even_plan(2, 0)], -1), False)
        found = distances_by_row(sure_plan(2, "11"), [sure_plan(2, "00")])
        self.same(pairs(found.values()), [(2, 1), (0, 1), (0, 1), (-2, 1)])
        self.same(farthest(sure_plan(2, "11"), [sure_plan(2, "00")]), ((2, 1), "00"))
        self.same(tight_for(sure_plan(2, "11"), [sure_plan(2, "00")]), ["01", "10"])

    def test_tight_rows(self):
        for width, rounds in SHAPES:
            helpers = some_helpers(width, rounds, 2)
            value = value_of(distance(helpers))
            for plan in (nearest_chooser(helpers), some_plan(width, rounds, 8), helpers[1]):
                expected = [row for row, found in distances_by_row(plan, helpers).items() if found == value]
                self.same(tight_for(plan, helpers), expected)
            self.assertNotEqual(tight_for(nearest_chooser(helpers), helpers), [])
        self.same(tight_for(sure_plan(2, "0"), [sure_plan(2, "0"), sure_plan(2, "1")]), [])


class Papers(Case):
    def test_the_paper_returned(self):
        for width, rounds in SHAPES:
            helpers = some_helpers(width, rounds, 3, 5)
            paper = distance_paper(helpers)
            self.same((type(paper), len(paper), paper[0]), (tuple, 3, distance(helpers)))
            self.same((paper[1] == nearest_chooser(helpers), paper[2] == hard_foe(helpers)), (True, True))
            self.same(is_distance_paper(helpers, paper), True)

    def test_right_and_wrong_papers(self):
        helpers = [sure_plan(2, "00"), sure_plan(2, "11")]
        number, chooser, foe = distance_paper(helpers)
        self.same(is_distance_paper(helpers, ((3, 6), chooser, foe)), True)
        for wrong in (0, 1, (-1, 2), pair(Fraction(1, 2) + SMALL), pair(Fraction(1, 2) - SMALL)):
            self.same(is_distance_paper(helpers, (wrong, chooser, foe)), False)
        self.same(is_distance_paper(helpers, (number, sure_plan(2, "00"), foe)), False)
        self.same(is_distance_paper(helpers, (number, chooser, sure_plan(2, "00"))), False)
        self.same(is_distance_paper([sure_plan(2, "00")], (0, sure_plan(2, "00"), sure_plan(2, "00"))), True)
        self.same(is_distance_paper([sure_plan(2, "00")], ((0, 4), sure_plan(2, "00"), even_plan(2, 2))), True)
        self.same(is_distance_paper([sure_plan(2, "00")], (0, even_plan(2, 2), even_plan(2, 2))), False)

    def test_papers_are_value_papers_of_the_best_table(self):
        for width, rounds in SMALL_SHAPES:
            helpers = some_helpers(width, rounds, 3, 7)
            table = best_table(helpers)
            number, chooser, foe = distance_paper(helpers)
            for plan in (chooser, foe, helpers[0], blended(chooser, helpers[1], weight=(1, 3))):
                for other in (foe, chooser, even_plan(width, rounds)):
                    for told in (number, 0, farthest(plan, helpers)[0]):
                        expected = is_value_paper(table, (pair(-value_of(told)), plan, other))
                        self.same(is_distance_paper(helpers, (told, plan, other)), expected)

    def test_plans_of_another_shape(self):
        for shape in [(2, 1), (2, 0), (3, 2), (1, 3)]:
            helpers = some_helpers(*shape, 2)
            number, chooser, foe = distance_paper(helpers)
            for other in SHAPES:
                if other != shape:
                    self.same(is_distance_paper(helpers, (number, even_plan(*other), foe)), False)
                    self.same(is_distance_paper(helpers, (number, chooser, even_plan(*other))), False)

    def test_values_that_are_no_numbers(self):
        helpers = some_helpers(2, 2, 2)
        _, chooser, foe = distance_paper(helpers)
        for wrong in NOT_NUMBERS:
            self.raises(BadNumber, {}, is_distance_paper, helpers, (wrong, chooser, foe))
            self.raises(BadNumber, {}, is_distance_paper, helpers, (wrong, even_plan(3, 1), foe))
            self.raises(NoHelper, {}, is_distance_paper, [], (wrong, chooser, foe))
            self.raises(BadNumber, {}, is_within, chooser, helpers, wrong)
            self.raises(Mismatch, {}, is_within, even_plan(3, 1), helpers, wrong)


class WrongLists(Case):
    def calls(self, helpers):
        plan = helpers[0] if helpers else even_plan(2, 1)
        for _, call in LISTS:
            yield lambda call=call: call(helpers, "0" * plan.rounds)
            yield lambda call=call: call(helpers, "x" * 9)
        for call in WHOLE:
            yield lambda call=call: call(helpers)
        for call in (farthest, tight_for):
            yield lambda call=call: call(plan, helpers)
            yield lambda call=call: call(even_plan(5, 3), helpers)
        yield lambda: is_within(plan, helpers, None)
        yield lambda: is_distance_paper(helpers, (None, plan, plan))

    def test_no_helper_and_too_many(self):
        for call in self.calls([]):
            self.raises(NoHelper, {}, call)
        for many in (6, 7, 600):
            for helpers in ([even_plan(2, 1)] * many, [even_plan(2, 1), even_plan(3, 1)] * many):
                for call in self.calls(helpers):
                    self.raises(BadCount, {"found": len(helpers), "low": 1, "high": 5}, call)

    def test_a_plan_of_another_shape_at_each_place(self):
        for many in range(2, 6):
            for at in range(many):
                for other in ((2, 1), (3, 2), (2, 3), (1, 2)):
                    helpers = [even_plan(2, 2)] * many
                    helpers[at] = even_plan(*other)
                    for call in self.calls(helpers):
                        self.raises(Mismatch, {}, call)

    def test_wrong_rows(self):
        for width, rounds in EDGE_SHAPES:
            helpers = some_helpers(width, rounds, 2)
            rows = [*wrong_texts(width), "0" * (rounds + 1), "0" * 99] + ["0" * (rounds - 1)] * (rounds > 0)
            for row in rows:
                if row not in texts(width, rounds):
                    for _, call in LISTS:
                        self.raises(BadRow, {"found": row}, call, helpers, row)

    def test_plans_of_another_shape_than_the_helpers(self):
        for shape in [(2, 1), (2, 0), (3, 2), (1, 3)]:
            for other in SHAPES:
                if other != shape:
                    for call in (farthest, tight_for):
                        self.raises(Mismatch, {}, call, even_plan(*other), [even_plan(*shape)])
                    self.raises(Mismatch, {}, is_within, even_plan(*other), [even_plan(*shape)], 0)


if __name__ == "__main__":
    unittest.main()
