"""Points 53 to 55, and the section notbehind/anytime.py."""

import unittest
from fractions import Fraction

from model import chance_of, filling, misses_on, wide_folds
from notbehind.anytime import (
    anytime_chooser, anytime_distance, anytime_fold, anytime_folds, anytime_foe, anytime_paper, anytime_slack, best_ladder,
    end_ladder, endings, is_anytime_paper, stopped_mean, stopped_misses,
)
from notbehind.errors import BadCount, BadNumber, BadRow, BadSize, Mismatch, NoHelper
from notbehind.filling import wide_fold, wide_keeper
from notbehind.helpers import distance
from notbehind.misses import least_misses, mean_under
from notbehind.plans import Plan, blended, even_plan, sure_plan
from notbehind.tables import Table, flat, highest_rows
from samples import some_helpers, some_plan, some_table
from support import (
    EDGE_SHAPES, HUGE, MOST_ROUNDS, NOT_NUMBERS, SHAPES, SMALL_SHAPES, Case, all_texts, inner_texts, pair, pairs,
    some_numbers, texts, value_of, wrong_texts,
)

SMALL = Fraction(1, 10 ** 25)
LADDERS = [anytime_folds, anytime_fold, anytime_chooser, anytime_foe, anytime_paper]


def some_ladder(width, rounds, seed=1):
    """A ladder whose bounds lie near each other, so that some of them stop a game and some do not."""
    ladder = []
    for length in range(rounds + 1):
        numbers = some_numbers(width ** length, seed + length)
        even = Fraction(length * (width - 1), width)
        ladder.append(Table(width, length, [pair(value_of(number) / 30 + even) for number in numbers]))
    return ladder


def bounds_of(ladder):
    return {row: value_of(table(row)) for table in ladder for row in texts(table.width, table.rounds)}


def steps_of(ladder):
    """The anytime folds, and the fillings at the inner beginnings, by beginning."""
    width, rounds = ladder[-1].width, ladder[-1].rounds
    folds, steps = bounds_of(ladder), {}
    for b in reversed(inner_texts(width, rounds)):
        steps[b] = filling([folds[b + y] for y in texts(width, 1)])
        folds[b] = min(folds[b], steps[b][0])
    return folds, steps


def stopped_by_hand(foe, stops, ladder):
    """The stopped misses and the stopped mean, round by round."""
    misses, mean, bounds = Fraction(0), Fraction(0), bounds_of(ladder)
    going = [("", Fraction(1))]
    while going:
        b, chance = going.pop()
        if b in stops or len(b) == foe.rounds:
            mean += chance * bounds[b]
        else:
            shares = [value_of(share) for share in foe(b)]
            misses += chance * (1 - max(shares))
            going.extend((b + str(y), chance * share) for y, share in enumerate(shares))
    return misses, mean


def slack_by_hand(chooser, ladder):
    return min(bound - misses_on(chooser, b) for b, bound in bounds_of(ladder).items())


class Ladders(Case):
    def test_end_ladders(self):
        for width, rounds in SHAPES:
            table = some_table(width, rounds)
            for number in (0, (4, 6), -3):
                ladder = end_ladder(table, number)
                self.same((type(ladder), len(ladder)), (list, rounds + 1))
                self.same(ladder[-1] == table, True)
                for length in range(rounds):
                    self.same(ladder[length] == flat(width, length, number), True)

    def test_high_end_ladders_have_fold_and_keeper_of_the_table(self):
        for width, rounds in SHAPES:
            table = some_table(width, rounds, 2)
            greatest = table(highest_rows(table)[0])
            for number in (greatest, pair(value_of(greatest) + 5), HUGE):
                ladder = end_ladder(table, number)
                self.same(anytime_fold(ladder), wide_fold(table))
                self.same(anytime_chooser(ladder) == wide_keeper(table), True)

    def test_the_number_is_checked_with_0_rounds_too(self):
        for wrong in NOT_NUMBERS:
            self.raises(BadNumber, {}, end_ladder, flat(2, 0, 0), wrong)
            self.raises(BadNumber, {}, end_ladder, flat(2, 1, 0), wrong)

    def test_best_ladders(self):
        for width, rounds in SHAPES:
            for many in (1, 2, 5):
                helpers = some_helpers(width, rounds, many)
                ladder = best_ladder(tuple(helpers))
                self.same((type(ladder), len(ladder)), (list, rounds + 1))
                for length, table in enumerate(ladder):
                    self.same((type(table) is Table, table.width, table.rounds), (True, width, length))
                    expected = [min(misses_on(helper, b) for helper in helpers) for b in texts(width, length)]
                    self.same(table.cells, pairs(expected))

    def test_wrong_helpers(self):
        for call in (best_ladder, anytime_distance):
            self.raises(NoHelper, {}, call, [])
            self.raises(BadCount, {"found": 6, "low": 1, "high": 5}, call, [even_plan(2, 1)] * 6)
            self.raises(Mismatch, {}, call, [even_plan(2, 1), even_plan(2, 2)])
            self.raises(Mismatch, {}, call, [even_plan(2, 0), even_plan(3, 0)])

    def test_lists_are_new(self):
        self.new_list(lambda: end_ladder(flat(2, 2, 0), 1))
        self.new_list(lambda: best_ladder([even_plan(2, 2)]))
        self.new_list(lambda: anytime_folds(some_ladder(2, 2)))
        self.new_list(lambda: anytime_foe(some_ladder(2, 2))[1])
        self.new_list(lambda: endings(["0"], 2))


class Folds(Case):
    def test_ladders_of_every_shape(self):
        for width, rounds in SHAPES:
            for seed in (1, 2):
                ladder = some_ladder(width, rounds, seed)
                folds, steps = steps_of(ladder)
                self.same(anytime_folds(tuple(ladder)), pairs([folds[b] for b in all_texts(width, rounds)]))
                self.same(anytime_fold(ladder), pair(folds[""]))
                chooser, (foe, stops) = anytime_chooser(ladder), anytime_foe(ladder)
                self.same((type(chooser), type(foe), type(stops)), (Plan, Plan, list))
                bounds = bounds_of(ladder)
                self.same(stops, [b for b in inner_texts(width, rounds) if bounds[b] <= steps[b][0]])
                for b in inner_texts(width, rounds):
                    self.same(list(chooser(b)), pairs(steps[b][1]))
                    self.same(list(foe(b)), pairs(steps[b][3]))

    def test_some_ladders_stop_and_some_do_not(self):
        found = {len(anytime_foe(some_ladder(2, 3, seed))[1]) for seed in range(9)}
        self.assertGreater(len(found), 2)

    def test_one_table(self):
        for width in MOST_ROUNDS:
            ladder = [flat(width, 0, (2, 4))]
            self.same(anytime_folds(ladder), [(1, 2)])
            self.same(anytime_fold(ladder), (1, 2))
            self.same(anytime_chooser(ladder) == even_plan(width, 0), True)
            foe, stops = anytime_foe(ladder)
            self.same((foe == even_plan(width, 0), stops), (True, []))
            self.same(anytime_slack(even_plan(width, 0), ladder), (1, 2))

    def test_a_bound_exactly_at_the_step_and_beside_it(self):
        last = Table(2, 1, [0, (1, 2)])
        step = Fraction(-1, 4)
        for bound, stops in ((step, [""]), (step - SMALL, [""]), (step + SMALL, []), (-9, [""]), (9, [])):
            ladder = [flat(2, 0, pair(bound)), last]
            self.same(anytime_foe(ladder)[1], stops)
            self.same(anytime_fold(ladder), pair(min(bound, step)))
            self.same(anytime_chooser(ladder).shares, [((3, 4), (1, 4))])
            self.same(anytime_foe(ladder)[0].shares, [((1, 2), (1, 2))])

    def test_stops_behind_stops_and_with_the_chance_0(self):
        ladder = [flat(2, 0, -9), Table(2, 1, [-9, 9]), Table(2, 2, [0, 0, 0, 0])]
        foe, stops = anytime_foe(ladder)
        self.same(stops, ["", "0"])
        self.same(foe("")[1], (0, 1))
        ladder = [flat(2, 0, 9), Table(2, 1, [-9, -1]), Table(2, 2, [0, 0, 0, 0])]
        foe, stops = anytime_foe(ladder)
        self.same(stops, ["0", "1"])
        self.same(foe(""), ((1, 1), (0, 1)))

    def test_no_chooser_has_a_greater_slack(self):
        for width, rounds in SHAPES:
            ladder = some_ladder(width, rounds, 3)
            fold = value_of(anytime_fold(ladder))
            self.same(anytime_slack(anytime_chooser(ladder), ladder), pair(fold))
            for plan in (some_plan(width, rounds), even_plan(width, rounds), wide_keeper(ladder[-1])):
                self.assertLessEqual(value_of(anytime_slack(plan, ladder)), fold)

    def test_the_slack_is_over_all_beginnings(self):
        for width, rounds in SHAPES:
            ladder, plan = some_ladder(width, rounds, 5), some_plan(width, rounds, 2)
            self.same(anytime_slack(plan, tuple(ladder)), pair(slack_by_hand(plan, ladder)))
        plan, rows = sure_plan(2, "00"), flat(2, 2, 9)
        self.same(anytime_slack(plan, [flat(2, 0, -1), flat(2, 1, 9), rows]), (-1, 1))
        self.same(anytime_slack(plan, [flat(2, 0, 9), Table(2, 1, [9, 0]), rows]), (-1, 1))
        self.same(anytime_slack(plan, [flat(2, 0, 9), flat(2, 1, 9), rows]), (7, 1))

    def test_plans_of_another_shape(self):
        ladder = some_ladder(2, 2)
        for shape in SHAPES:
            if shape != (2, 2):
                self.raises(Mismatch, {}, anytime_slack, even_plan(*shape), ladder)
                self.raises(Mismatch, {}, stopped_mean, even_plan(*shape), [], ladder)

    def test_distances_with_and_without_an_early_end_are_equal(self):
        for width, rounds in SHAPES:
            for many in (1, 2, 4):
                helpers = some_helpers(width, rounds, many, 5)
                self.same(anytime_distance(helpers), distance(helpers))
                self.same(anytime_distance(helpers), pair(-steps_of(best_ladder(helpers))[0][""]))
        self.same(anytime_distance([sure_plan(2, "00"), sure_plan(2, "11")]), (1, 2))


class Stops(Case):
    def test_endings_by_hand(self):
        self.same(endings([], 2), ["00", "01", "10", "11"])
        self.same(endings(["0"], 2), ["0", "10", "11"])
        self.same(endings(["1", "0", "1", "0"], 2), ["0", "1"])
        self.same(endings(["01", "0", "11", "0"], 3), ["0", "11", "100", "101"])
        self.same(endings([""], 2), [""])
        self.same(endings(["1", ""], 8), [""])
        self.same(endings([], 0), [""])
        self.same(endings((), 0, width=5), [""])
        self.same(endings(["2", "00"], 3, width=3)[:3], ["2", "00", "010"])
        self.same(endings([""], 8, width=1), [""])
        self.same(endings(["00"], 8, width=1), ["00"])
        self.same(endings([], 8, width=1), ["0" * 8])

    def test_endings_by_the_way_of_each_row(self):
        for width, rounds in SHAPES:
            for step in (2, 3, 7):
                stops = inner_texts(width, rounds)[1::step]
                expected = set()
                for row in texts(width, rounds):
                    expected.add(next((row[:n] for n in range(rounds) if row[:n] in stops), row))
                expected = [b for b in all_texts(width, rounds) if b in expected]
                self.same(endings(stops[::-1] + stops, rounds, width=width), expected)

    def test_wrong_shapes_of_endings(self):
        self.wrong_shapes(lambda width, rounds: endings(["x"], rounds, width=width))

    def test_wrong_stops(self):
        for width, rounds in EDGE_SHAPES:
            foe, ladder = even_plan(width, rounds), some_ladder(width, rounds)
            for text in [*wrong_texts(width), "0" * rounds, "0" * (rounds + 1), "0" * 99]:
                if text not in inner_texts(width, rounds):
                    for stops in ([text], [text, "x" * 9], inner_texts(width, rounds)[:5] + [text]):
                        self.raises(BadRow, {"found": text}, endings, stops, rounds, width=width)
                        self.raises(BadRow, {"found": text}, stopped_misses, foe, stops)
                        self.raises(BadRow, {"found": text}, stopped_mean, foe, stops, ladder)
                        self.raises(BadRow, {"found": text}, stopped_mean, foe, stops, [])
                        self.raises(BadRow, {"found": text}, stopped_mean, foe, stops, [flat(2, 1, 0)])

    def test_stopped_misses_and_means(self):
        for width, rounds in SHAPES:
            foe, ladder = some_plan(width, rounds, 2), some_ladder(width, rounds, 2)
            for step in (1, 2, 3, 5):
                stops = inner_texts(width, rounds)[step - 1::step]
                misses, mean = stopped_by_hand(foe, stops, ladder)
                for told in (stops, tuple(stops[::-1] * 2)[:600]):
                    if set(told) == set(stops):
                        self.same(stopped_misses(foe, told), pair(misses))
                        self.same(stopped_mean(foe, told, tuple(ladder)), pair(mean))

    def test_no_stops_are_the_game_to_its_end(self):
        for width, rounds in SHAPES:
            foe, ladder = some_plan(width, rounds, 4), some_ladder(width, rounds)
            self.same(stopped_misses(foe, []), least_misses(foe))
            self.same(stopped_mean(foe, [], ladder), mean_under(foe, ladder[-1]))
            if rounds > 0:
                self.same(stopped_misses(foe, [""]), (0, 1))
                self.same(stopped_mean(foe, [""], ladder), ladder[0](""))

    def test_stops_behind_stops_change_nothing(self):
        foe, ladder = some_plan(2, 4, 3), some_ladder(2, 4)
        for more in (["00"], ["000", "01"], ["0", "0"]):
            self.same(stopped_misses(foe, ["0"] + more), stopped_misses(foe, ["0"]))
            self.same(stopped_mean(foe, more + ["0"], ladder), stopped_mean(foe, ["0"], ladder))
            self.same(endings(more + ["0"], 4), endings(["0"], 4))

    def test_chances(self):
        foe = some_plan(3, 3, 2)
        ladder = [flat(3, length, 1) for length in range(4)]
        for stops in ([], ["0"], ["0", "12", "2"]):
            self.same(stopped_mean(foe, stops, ladder), (1, 1))
            self.assertEqual(sum(chance_of(foe, b) for b in endings(stops, 3, width=3)), 1)


class Papers(Case):
    def test_the_paper_returned(self):
        for width, rounds in SHAPES:
            ladder = some_ladder(width, rounds, 4)
            paper = anytime_paper(tuple(ladder))
            self.same((type(paper), len(paper), paper[0]), (tuple, 4, anytime_fold(ladder)))
            foe, stops = anytime_foe(ladder)
            self.same((paper[1] == anytime_chooser(ladder), paper[2] == foe, paper[3]), (True, True, stops))
            self.same(is_anytime_paper(ladder, paper), True)
            self.same(is_anytime_paper(tuple(ladder), (paper[0], paper[1], foe, tuple(stops[::-1] + stops[:40]))), True)

    def test_numbers_beside_the_fold(self):
        for width, rounds in SMALL_SHAPES:
            ladder = some_ladder(width, rounds, 4)
            number, chooser, foe, stops = anytime_paper(ladder)
            for wrong in (value_of(number) + SMALL, value_of(number) - SMALL, value_of(number) + 1):
                self.same(is_anytime_paper(ladder, (pair(wrong), chooser, foe, stops)), False)
            above, below = number
            self.same(is_anytime_paper(ladder, ((above * 3, below * 3), chooser, foe, stops)), True)

    def test_papers_by_their_two_conditions(self):
        for width, rounds in SMALL_SHAPES:
            ladder = some_ladder(width, rounds, 6)
            number, chooser, foe, stops = anytime_paper(ladder)
            inner = inner_texts(width, rounds)
            for plan in (chooser, some_plan(width, rounds), blended(chooser, even_plan(width, rounds), weight=(1, 9))):
                for other in (foe, some_plan(width, rounds, 3), even_plan(width, rounds)):
                    for told in (stops, [], inner[:1], inner[1:], inner):
                        misses, mean = stopped_by_hand(other, told, ladder)
                        for value in (value_of(number), slack_by_hand(plan, ladder), mean - misses):
                            expected = slack_by_hand(plan, ladder) >= value and misses >= mean - value
                            self.same(is_anytime_paper(ladder, (pair(value), plan, other, told)), expected)

    def test_other_papers_are_right_too(self):
        ladder = [flat(2, 0, -1), flat(2, 1, 9)]
        self.same(is_anytime_paper(ladder, (-1, sure_plan(2, "0"), sure_plan(2, "1"), [""])), True)
        self.same(is_anytime_paper(ladder, (-1, sure_plan(2, "1"), even_plan(2, 1), ["", ""])), True)
        self.same(is_anytime_paper(ladder, (-1, sure_plan(2, "0"), sure_plan(2, "1"), [])), False)

    def test_plans_of_another_shape_and_texts_that_are_no_inner_beginning(self):
        ladder = some_ladder(2, 2)
        number, chooser, foe, stops = anytime_paper(ladder)
        for shape in SHAPES:
            if shape != (2, 2):
                self.same(is_anytime_paper(ladder, (number, even_plan(*shape), foe, stops)), False)
                self.same(is_anytime_paper(ladder, (number, chooser, even_plan(*shape), stops)), False)
        for text in [*wrong_texts(2), "00", "000"]:
            if text not in inner_texts(2, 2):
                self.same(is_anytime_paper(ladder, (number, chooser, foe, stops + [text])), False)
                self.same(is_anytime_paper(ladder, (number, chooser, foe, [text] + stops)), False)
        self.same(is_anytime_paper([flat(2, 0, 0)], (0, even_plan(2, 0), even_plan(2, 0), [])), True)
        self.same(is_anytime_paper([flat(2, 0, 0)], (0, even_plan(2, 0), even_plan(2, 0), [""])), False)

    def test_values_that_are_no_numbers(self):
        ladder = some_ladder(2, 2)
        _, chooser, foe, stops = anytime_paper(ladder)
        for wrong in NOT_NUMBERS:
            self.raises(BadNumber, {}, is_anytime_paper, ladder, (wrong, chooser, foe, stops))
            self.raises(BadNumber, {}, is_anytime_paper, ladder, (wrong, even_plan(3, 1), foe, ["x"]))
            self.raises(BadSize, {"found": 0, "due": 1}, is_anytime_paper, [], (wrong, chooser, foe, stops))
            self.raises(Mismatch, {}, is_anytime_paper, [flat(2, 1, 0)], (wrong, chooser, foe, stops))


class WrongLadders(Case):
    def calls(self, ladder):
        for call in LADDERS:
            yield lambda call=call: call(ladder)
        for plan in (even_plan(2, 2), even_plan(5, 3)):
            yield lambda plan=plan: anytime_slack(plan, ladder)
            yield lambda plan=plan: stopped_mean(plan, ["0"], ladder)
        yield lambda: is_anytime_paper(ladder, (None, even_plan(2, 2), even_plan(2, 2), []))

    def test_empty_ladders(self):
        for ladder in ([], ()):
            for call in self.calls(ladder):
                self.raises(BadSize, {"found": 0, "due": 1}, call)

    def test_tables_of_another_width_or_with_other_rounds(self):
        for at in range(3):
            for shape in ((2, 0), (2, 1), (2, 2), (2, 3), (3, at), (1, at)):
                ladder = some_ladder(2, 2)
                if shape != (2, at) and not (at == 0 and shape[1] == 0):
                    ladder[at] = flat(*shape, 0)
                    for call in self.calls(ladder):
                        self.raises(Mismatch, {}, call)
        for call in self.calls([flat(3, 0, 0), flat(2, 1, 0), flat(2, 2, 0)]):
            self.raises(Mismatch, {}, call)
        for call in self.calls([flat(2, 1, 0)]):
            self.raises(Mismatch, {}, call)
        for call in self.calls([flat(2, 0, 0)] * 600):
            self.raises(Mismatch, {}, call)

    def test_lists_stay_as_they_were(self):
        ladder, stops = some_ladder(2, 2), ["1", "0", "1"]
        for call in LADDERS:
            call(ladder)
        anytime_slack(even_plan(2, 2), ladder)
        stopped_mean(even_plan(2, 2), stops, ladder)
        endings(stops, 2)
        self.same(([table.rounds for table in ladder], stops), ([0, 1, 2], ["1", "0", "1"]))
        folds = wide_folds(ladder[-1])
        self.same(wide_fold(ladder[-1]), pair(folds[""]))


if __name__ == "__main__":
    unittest.main()
