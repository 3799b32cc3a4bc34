"""Points 41 to 45, and the section notbehind/stakes.py."""

import itertools
import unittest
from fractions import Fraction

from model import chance_of, folds_of, mean_by, slacks, two_step
from notbehind.errors import BadCount, BadNumber, BadRow, BadShare, BadSize, BadWeight, Mismatch, NoHelper
from notbehind.folding import fold, keeper, step, step_chances, step_share
from notbehind.machines import constant_machine
from notbehind.misses import misses_table
from notbehind.plans import Plan, even_plan, sure_plan
from notbehind.stakes import (
    Picks, Stakes, is_stakes_paper, least_losses, losses_table, miss_stakes, pick_losses, picks_of, plan_of,
    stakes_best, stakes_breaker, stakes_chances, stakes_distance, stakes_fold, stakes_keeper, stakes_paper,
    stakes_pick, stakes_step,
)
from notbehind.tables import Table, flat, raised
from support import (
    EDGE_SHAPES, NOT_NUMBERS, SHAPES, SMALL_SHAPES, Case, all_texts, inner_texts, pair, pairs, some_numbers,
    some_shares, texts, value_of, wrong_counts, wrong_texts,
)

SMALL = Fraction(1, 10 ** 25)


def some_stakes(width, seed=1):
    numbers = some_numbers(2 * width, seed)
    return Stakes(width, [numbers[:width], numbers[width:]])


def some_picks(width, rounds, seed=1):
    ones = []
    for at in range(len(inner_texts(width, rounds))):
        below = (at * 7 + seed) % 5 + 1
        ones.append(pair(Fraction((at * 11 + seed * 3) % (below + 1), below)))
    return Picks(width, rounds, ones)


def some_table(width, rounds, seed=1):
    return Table(width, rounds, some_numbers(width ** rounds, seed)) * (1, 3)


def values(numbers):
    return [value_of(number) for number in numbers]


def ends(stakes, levels):
    """For each outcome its remainders at the pick 0 and at the pick 1."""
    first, last = [values(losses) for losses in stakes.losses]
    return [(level - a, level - b) for level, a, b in zip(values(levels), first, last)]


def crossings(lines):
    """For two outcomes of which one rises and one falls: the chance of the first and the mean."""
    for (y, (a, b)), (z, (c, d)) in itertools.combinations(enumerate(lines), 2):
        if (b - a) * (d - c) < 0:
            chance = (d - c) / ((d - c) - (b - a))
            yield y, z, chance, chance * a + (1 - chance) * c


def model_step(lines):
    """The step as the least of what a foe can force: by one outcome, or by two."""
    return min([max(line) for line in lines] + [mean for _, _, _, mean in crossings(lines)])


def model_pick(lines):
    """The least pick at which no remainder is below the step."""
    told = model_step(lines)
    return max([Fraction(0)] + [(told - a) / (b - a) for a, b in lines if b > a and a < told])


def model_chances(lines):
    told = model_step(lines)
    for y, line in enumerate(lines):
        if max(line) <= told:
            return [Fraction(int(y == at)) for at in range(len(lines))]
    y, z, chance, _ = next(found for found in crossings(lines) if found[3] == told)
    return [{y: chance, z: 1 - chance}.get(at, Fraction(0)) for at in range(len(lines))]


def losses_on(stakes, picks, text):
    found = Fraction(0)
    for at, outcome in enumerate(text):
        pick = value_of(picks(text[:at]))
        a, b = [value_of(losses[int(outcome)]) for losses in stakes.losses]
        found += (1 - pick) * a + pick * b
    return found


def model_folds(stakes, table):
    return folds_of(table, lambda levels: model_step(ends(stakes, [pair(level) for level in levels])))


def lowest_losses(stakes, foe):
    found = Fraction(0)
    for b in inner_texts(foe.width, foe.rounds):
        means = [sum(value_of(q) * value_of(loss) for q, loss in zip(foe(b), losses)) for losses in stakes.losses]
        found += chance_of(foe, b) * min(means)
    return found


class StakesObjects(Case):
    def test_properties_and_losses_of_picks(self):
        for width in range(1, 6):
            numbers = some_numbers(2 * width, 3)
            stakes = Stakes(width, (numbers[:width], tuple(numbers[width:])))
            self.same(stakes.width, width)
            self.same(stakes.losses, [tuple(pairs(values(numbers[:width]))), tuple(pairs(values(numbers[width:])))])
            for pick in (0, 1, (1, 3), (2, 4), pair(1 - SMALL)):
                for y in range(width):
                    p = value_of(pick)
                    expected = (1 - p) * value_of(numbers[y]) + p * value_of(numbers[width + y])
                    self.same(stakes(pick, str(y)), pair(expected))
        self.new_list(lambda: some_stakes(2).losses)

    def test_lists_are_not_kept(self):
        losses = [[0, 3], [1, 0]]
        stakes = Stakes(2, losses)
        losses[0][0] = 9
        losses.pop()
        self.same(stakes.losses, [((0, 1), (3, 1)), ((1, 1), (0, 1))])

    def test_equal_stakes(self):
        stakes = Stakes(2, [[0, (1, 2)], [1, 0]])
        self.same(stakes == Stakes(2, (((0, 3), (2, 4)), (1, 0))), True)
        self.same(stakes == stakes, True)
        for other in (
            Stakes(2, [[0, (1, 2)], [1, 1]]), Stakes(2, [[1, 0], [0, (1, 2)]]), Stakes(1, [[0], [1]]),
            Stakes(3, [[0, (1, 2), 0], [1, 0, 0]]), None, 1, "stakes", stakes.losses, (), even_plan(2, 1), flat(2, 1, 0),
            Picks(2, 0, []), constant_machine(2, [1, 0]), object(),
        ):
            self.same(stakes == other, False)
        for other in (even_plan(2, 1), flat(2, 1, 0), constant_machine(2, [1, 0])):
            self.same(other == stakes, False)

    def test_wrong_stakes(self):
        for wrong in wrong_counts(1, 5):
            for losses in ([], [[0, 0], [0, 0]], [None]):
                self.raises(BadCount, {"found": wrong, "low": 1, "high": 5}, Stakes, wrong, losses)
        for width in range(1, 6):
            for many in (0, 1, 3, 600):
                self.raises(BadSize, {"found": many, "due": 2}, Stakes, width, [[None] * width] * many)
            for many in (0, width - 1, width + 1):
                if many != width:
                    told = {"found": many, "due": width}
                    self.raises(BadSize, told, Stakes, width, [[None] * many, [0] * width])
                    self.raises(BadSize, told, Stakes, width, [[0] * width, [None] * many])
        for wrong in NOT_NUMBERS:
            self.raises(BadNumber, {}, Stakes, 2, [[0, wrong], [0]])
            self.raises(BadNumber, {}, Stakes, 2, [[0, 0], [wrong, 0]])

    def test_wrong_picks_and_outcomes(self):
        for width in range(1, 6):
            stakes = some_stakes(width)
            for wrong in (-1, 2, (-1, 2), (3, 2), pair(-SMALL), pair(1 + SMALL)):
                self.raises(BadWeight, {}, stakes, wrong, "0")
                self.raises(BadWeight, {}, stakes, wrong, "x")
            for wrong in NOT_NUMBERS:
                self.raises(BadNumber, {}, stakes, wrong, "x")
            for text in [*wrong_texts(width), "", "00", "0" * 9]:
                self.raises(BadRow, {"found": text}, stakes, (1, 2), text)


class PicksObjects(Case):
    def test_properties_calls_and_iteration(self):
        for width, rounds in SHAPES:
            beginnings = inner_texts(width, rounds)
            ones = [(at % 4, 6) for at in range(len(beginnings))]
            picks = Picks(width, rounds, ones)
            expected = [pair(Fraction(at % 4, 6)) for at in range(len(beginnings))]
            self.same((picks.width, picks.rounds, picks.ones), (width, rounds, expected))
            self.same(list(picks), expected)
            self.same([one for one in picks], expected)
            self.same([picks(b) for b in beginnings], expected)
            self.same(Picks(width, rounds, tuple(ones)) == picks, True)
        self.new_list(lambda: Picks(2, 2, [0, 1, (1, 2)]).ones)
        self.same(Picks(2, 1, [0]).ones + Picks(2, 1, [1]).ones, [(0, 1), (1, 1)])

    def test_lists_are_not_kept(self):
        ones = [0, (1, 2), 1]
        picks = Picks(2, 2, ones)
        ones[0] = 5
        ones.clear()
        self.same(picks.ones, [(0, 1), (1, 2), (1, 1)])

    def test_equal_picks(self):
        picks = Picks(2, 2, [0, (1, 2), 1])
        self.same(picks == Picks(2, 2, ((0, 7), (2, 4), (3, 3))), True)
        self.same(picks == picks, True)
        for other in (
            Picks(2, 2, [0, (1, 2), 0]), Picks(2, 1, [0]), Picks(1, 3, [0, (1, 2), 1]), Picks(3, 1, [0]), None, 0, "",
            picks.ones, tuple(picks.ones), even_plan(2, 2), flat(2, 2, 0), miss_stakes(), object(),
        ):
            self.same(picks == other, False)
        self.same(Picks(2, 0, []) == Picks(3, 0, []), False)
        for other in (even_plan(2, 2), flat(2, 2, 0), miss_stakes()):
            self.same(other == picks, False)

    def test_wrong_picks(self):
        self.wrong_shapes(lambda width, rounds: Picks(width, rounds, [None]))
        for width, rounds in EDGE_SHAPES:
            beginnings = inner_texts(width, rounds)
            for many in (0, len(beginnings) - 1, len(beginnings) + 1):
                if many != len(beginnings) and many >= 0:
                    told = {"found": many, "due": len(beginnings)}
                    self.raises(BadSize, told, Picks, width, rounds, [None] * many)
            for at in sorted({0, len(beginnings) // 2, len(beginnings) - 1}):
                if beginnings:
                    for wrong in (-1, 2, (-1, 2), (3, 2), pair(-SMALL), pair(1 + SMALL)):
                        ones = [1] * len(beginnings)
                        ones[at] = wrong
                        self.raises(BadShare, {"at": beginnings[at]}, Picks, width, rounds, ones)
        for wrong in NOT_NUMBERS:
            self.raises(BadNumber, {}, Picks, 2, 2, [0, wrong, 2])
            self.raises(BadShare, {"at": ""}, Picks, 2, 2, [2, wrong, 0])

    def test_wrong_beginnings(self):
        for width, rounds in EDGE_SHAPES:
            picks = some_picks(width, rounds)
            for text in [*wrong_texts(width), "0" * rounds, "0" * 99]:
                if text not in inner_texts(width, rounds):
                    self.raises(BadRow, {"found": text}, picks, text)

    def test_picks_and_plans_of_width_2(self):
        for rounds in range(9):
            plan = Plan(2, rounds, some_shares(2, rounds))
            picks = picks_of(plan)
            self.assertIs(type(picks), Picks)
            self.same((picks.width, picks.rounds), (2, rounds))
            self.same(picks.ones, [plan(b)[1] for b in inner_texts(2, rounds)])
            self.assertIs(type(plan_of(picks)), Plan)
            self.same(plan_of(picks) == plan, True)
            self.same(picks_of(plan_of(some_picks(2, rounds))) == some_picks(2, rounds), True)
        for width, rounds in SHAPES:
            if width != 2:
                self.raises(Mismatch, {}, picks_of, even_plan(width, rounds))
                self.raises(Mismatch, {}, plan_of, some_picks(width, rounds))


class Steps(Case):
    def check(self, stakes, levels):
        lines = ends(stakes, levels)
        with self.subTest(losses=stakes.losses, levels=levels):
            self.same(stakes_step(stakes, levels), pair(model_step(lines)))
            self.same(stakes_pick(stakes, levels), pair(model_pick(lines)))
            self.same(stakes_chances(stakes, levels), tuple(pairs(model_chances(lines))))

    def test_the_example_of_the_document(self):
        stakes = Stakes(2, [[0, 3], [1, 0]])
        self.same((stakes_step(stakes, [0, 0]), stakes_pick(stakes, [0, 0])), ((-3, 4), (3, 4)))
        self.same(stakes_chances(stakes, [0, 0]), ((3, 4), (1, 4)))

    def test_all_small_losses_and_levels_of_width_2(self):
        for losses in itertools.product([0, 1, -2, (1, 2)], repeat=4):
            for levels in ([0, 0], [0, 1], [(1, 3), -1], [2, -3]):
                self.check(Stakes(2, [losses[:2], losses[2:]]), levels)

    def test_each_width(self):
        for width in range(1, 6):
            for seed in range(60):
                self.check(some_stakes(width, seed), some_numbers(width, seed + 7))
                near = [pair(value_of(level) / 20) for level in some_numbers(width, seed + 3)]
                self.check(some_stakes(width, seed), near)
        for losses in itertools.product([0, 1, 2], repeat=6):
            self.check(Stakes(3, [losses[:3], losses[3:]]), [0, (1, 2), 1])

    def test_one_outcome(self):
        stakes = Stakes(1, [[3], [1]])
        self.same((stakes_step(stakes, [5]), stakes_pick(stakes, [5])), ((4, 1), (1, 1)))
        stakes = Stakes(1, [[1], [3]])
        self.same((stakes_step(stakes, [5]), stakes_pick(stakes, [5])), ((4, 1), (0, 1)))
        self.same(stakes_chances(stakes, [5]), ((1, 1),))

    def test_equal_choices_and_a_choice_better_everywhere(self):
        stakes = Stakes(3, [[2, -1, (1, 2)]] * 2)
        self.same((stakes_step(stakes, [0, 0, 0]), stakes_pick(stakes, [0, 0, 0])), ((-2, 1), (0, 1)))
        self.same(stakes_chances(stakes, [0, 0, 0]), ((1, 1), (0, 1), (0, 1)))
        self.same(stakes_chances(stakes, [9, 0, 2]), ((0, 1), (1, 1), (0, 1)))
        stakes = Stakes(2, [[3, 3], [1, 2]])
        self.same((stakes_step(stakes, [0, 0]), stakes_pick(stakes, [0, 0])), ((-2, 1), (1, 1)))
        self.same(stakes_chances(stakes, [0, 0]), ((0, 1), (1, 1)))
        stakes = Stakes(2, [[1, 2], [3, 3]])
        self.same((stakes_step(stakes, [0, 0]), stakes_pick(stakes, [0, 0])), ((-2, 1), (0, 1)))
        self.same(stakes_chances(stakes, [0, 0]), ((0, 1), (1, 1)))

    def test_the_least_of_a_stretch_of_picks(self):
        # The remainder of outcome 2 is the same for all picks; the others reach it from 1/4 on and up to 3/4.
        stakes = Stakes(3, [[1, -3, 0], [-3, 1, 0]])
        self.same(stakes_step(stakes, [0, 0, 0]), (0, 1))
        self.same(stakes_pick(stakes, [0, 0, 0]), (1, 4))
        self.same(stakes_chances(stakes, [0, 0, 0]), ((0, 1), (0, 1), (1, 1)))
        stakes = Stakes(2, [[0, 5], [0, 1]])
        self.same((stakes_step(stakes, [0, 2]), stakes_pick(stakes, [0, 2])), ((0, 1), (3, 4)))
        self.same(stakes_pick(stakes, [0, 9]), (0, 1))
        self.same(stakes_chances(stakes, [0, 2]), ((1, 1), (0, 1)))

    def test_remainders_that_meet_inside_and_outside_of_0_to_1(self):
        stakes = Stakes(2, [[0, 1], [1, 0]])
        for difference, pick in ((0, (1, 2)), ((1, 2), (1, 4)), (1, 0), (2, 0), (-1, 1), (-2, 1), (pair(1 - SMALL), None)):
            levels = [0, difference]
            self.check(stakes, levels)
            if pick is not None:
                self.same(value_of(stakes_pick(stakes, levels)), value_of(pick))
        for shift in (SMALL, -SMALL, 0):
            self.check(stakes, [0, pair(1 + shift)])
            self.check(stakes, [pair(1 + shift), 0])
        self.same(stakes_chances(stakes, [0, pair(1 - SMALL)]), ((1, 2), (1, 2)))
        self.same(stakes_chances(stakes, [0, 1]), ((1, 1), (0, 1)))

    def test_the_first_pair_of_several(self):
        stakes = Stakes(4, [[0, 1, 0, 1], [1, 0, 1, 0]])
        self.same(stakes_chances(stakes, [0, 0, 0, 0]), ((1, 2), (1, 2), (0, 1), (0, 1)))
        self.same(stakes_chances(stakes, [0, 5, 0, 0]), ((1, 2), (0, 1), (0, 1), (1, 2)))
        self.same(stakes_chances(stakes, [5, 0, 0, 0]), ((0, 1), (1, 2), (1, 2), (0, 1)))
        self.same(stakes_chances(stakes, [5, 5, 0, 0]), ((0, 1), (0, 1), (1, 2), (1, 2)))
        stakes = Stakes(3, [[0, 3, 1], [1, 0, 0]])
        self.check(stakes, [0, 0, (-1, 2)])
        self.check(stakes, [0, 0, 0])

    def test_a_pair_behind_outcomes_that_stay_above_the_step(self):
        stakes = Stakes(4, [[0, 0, 0, 1], [0, 0, 1, 0]])
        self.same(stakes_chances(stakes, [5, 5, 0, 0]), ((0, 1), (0, 1), (1, 2), (1, 2)))
        self.same(stakes_chances(stakes, [5, (-1, 3), 0, 0]), ((0, 1), (0, 1), (1, 2), (1, 2)))
        self.same(stakes_chances(stakes, [5, (-1, 2), 0, 0]), ((0, 1), (1, 1), (0, 1), (0, 1)))
        for levels in itertools.product([0, (-1, 2), (-1, 3), 5], repeat=4):
            self.check(stakes, levels)

    def test_levels_added_to(self):
        for seed in range(8):
            stakes, levels = some_stakes(3, seed), some_numbers(3, seed + 2)
            more = [pair(value_of(level) + Fraction(7, 3)) for level in levels]
            self.same(stakes_step(stakes, more), pair(value_of(stakes_step(stakes, levels)) + Fraction(7, 3)))
            self.same(stakes_pick(stakes, more), stakes_pick(stakes, levels))
            self.same(stakes_chances(stakes, more), stakes_chances(stakes, levels))

    def test_wrong_levels(self):
        for call in (stakes_step, stakes_pick, stakes_chances):
            for width in range(1, 6):
                for many in (0, width - 1, width + 1, 600):
                    if many != width:
                        told = {"found": many, "due": width}
                        self.raises(BadSize, told, call, some_stakes(width), [None] * many)
            for wrong in NOT_NUMBERS:
                self.raises(BadNumber, {}, call, some_stakes(2), [0, wrong])
                self.raises(BadNumber, {}, call, some_stakes(2), (wrong, 0))
            self.same(call(Stakes(2, [[0, 3], [1, 0]]), (0, 0)), call(Stakes(2, [[0, 3], [1, 0]]), [0, 0]))


class Losses(Case):
    def test_losses_of_every_shape(self):
        for width, rounds in SHAPES:
            stakes, picks = some_stakes(width, 2), some_picks(width, rounds)
            for b in all_texts(width, rounds)[::5]:
                self.same(pick_losses(stakes, picks, b), pair(losses_on(stakes, picks, b)))
            table = losses_table(stakes, picks)
            self.assertIs(type(table), Table)
            self.same((table.width, table.rounds), (width, rounds))
            self.same(table.cells, pairs(losses_on(stakes, picks, row) for row in texts(width, rounds)))
        self.same(pick_losses(miss_stakes(), some_picks(2, 3), ""), (0, 1))

    def test_wrong_beginnings_and_widths(self):
        for width, rounds in EDGE_SHAPES:
            picks = some_picks(width, rounds)
            for text in [*wrong_texts(width), "0" * (rounds + 1), "0" * 99]:
                self.raises(BadRow, {"found": text}, pick_losses, some_stakes(width), picks, text)
                for other in range(1, 6):
                    if other != width:
                        self.raises(Mismatch, {}, pick_losses, some_stakes(other), picks, text)
            for other in range(1, 6):
                if other != width:
                    self.raises(Mismatch, {}, losses_table, some_stakes(other), picks)
                    self.raises(Mismatch, {}, least_losses, some_stakes(other), even_plan(width, rounds))

    def test_least_losses(self):
        for width, rounds in SHAPES:
            stakes, foe = some_stakes(width, 4), Plan(width, rounds, some_shares(width, rounds, 2))
            self.same(least_losses(stakes, foe), pair(lowest_losses(stakes, foe)))
        for rounds in range(5):
            for told in itertools.product((0, 1), repeat=min(2 ** rounds - 1, 7)):
                if rounds < 4:
                    foe = Plan(2, rounds, some_shares(2, rounds, 3))
                    found = mean_by(foe, losses_table(some_stakes(2), Picks(2, rounds, told)))
                    self.assertGreaterEqual(found, lowest_losses(some_stakes(2), foe))


class Folds(Case):
    def test_folds_keepers_and_breakers(self):
        for width, rounds in SHAPES:
            if width ** rounds > 130:
                continue
            for seed in (1, 2, 3):
                stakes, table = some_stakes(width, seed), some_table(width, rounds, seed)
                found = model_folds(stakes, table)
                self.same(stakes_fold(stakes, table), pair(found[""]))
                picks, foe = stakes_keeper(stakes, table), stakes_breaker(stakes, table)
                self.same((type(picks), type(foe)), (Picks, Plan))
                self.same((picks.width, picks.rounds, foe.width, foe.rounds), (width, rounds) * 2)
                for b in inner_texts(width, rounds):
                    lines = ends(stakes, [pair(found[b + outcome]) for outcome in texts(width, 1)])
                    self.same(picks(b), pair(model_pick(lines)))
                    self.same(foe(b), tuple(pairs(model_chances(lines))))

    def test_keepers_and_breakers_on_every_row(self):
        for width, rounds in SMALL_SHAPES:
            for seed in range(4):
                stakes, table = some_stakes(width, seed), some_table(width, rounds, seed)
                value = value_of(stakes_fold(stakes, table))
                picks, foe = stakes_keeper(stakes, table), stakes_breaker(stakes, table)
                for row in texts(width, rounds):
                    self.assertLessEqual(losses_on(stakes, picks, row), value_of(table(row)) - value)
                self.assertEqual(lowest_losses(stakes, foe), mean_by(foe, table) - value)

    def test_tables_of_0_rounds(self):
        for width in range(1, 6):
            stakes = some_stakes(width)
            self.same(stakes_fold(stakes, flat(width, 0, (-6, 4))), (-3, 2))
            self.same(stakes_keeper(stakes, flat(width, 0, 1)).ones, [])
            self.same(len(stakes_breaker(stakes, flat(width, 0, 1))), 0)
            self.same(least_losses(stakes, even_plan(width, 0)), (0, 1))

    def test_unlike_widths(self):
        for width, rounds in EDGE_SHAPES:
            for other in range(1, 6):
                if other != width:
                    stakes, table = some_stakes(other), flat(width, rounds, 0)
                    for call in (stakes_fold, stakes_keeper, stakes_breaker, stakes_paper):
                        self.raises(Mismatch, {}, call, stakes, table)
                    for wrong in NOT_NUMBERS:
                        paper = (wrong, some_picks(width, rounds), even_plan(width, rounds))
                        self.raises(Mismatch, {}, is_stakes_paper, stakes, table, paper)


class MissStakes(Case):
    def test_losses(self):
        self.same(miss_stakes().width, 2)
        self.same(miss_stakes().losses, [((0, 1), (1, 1)), ((1, 1), (0, 1))])
        self.same(miss_stakes() == Stakes(2, [[0, 1], [1, 0]]), True)

    def test_beside_folding(self):
        for difference in (0, SMALL, Fraction(1, 3), 1 - SMALL, Fraction(1), 1 + SMALL, Fraction(5, 2)):
            for zero, one in ((Fraction(2, 7), Fraction(2, 7) + difference), (difference - 3, Fraction(-3))):
                levels = [pair(zero), pair(one)]
                self.same(stakes_step(miss_stakes(), levels), step(*levels))
                self.same(stakes_pick(miss_stakes(), levels), step_share(*levels))
                if difference == 1:
                    lower = ((1, 1), (0, 1)) if zero < one else ((0, 1), (1, 1))
                    self.same(stakes_chances(miss_stakes(), levels), lower)
                    self.same(step_chances(*levels), ((1, 2), (1, 2)))
                else:
                    self.same(stakes_chances(miss_stakes(), levels), step_chances(*levels))

    def test_tables(self):
        for rounds in range(7):
            for table in (some_table(2, rounds), misses_table(Plan(2, rounds, some_shares(2, rounds)))):
                self.same(stakes_fold(miss_stakes(), table), fold(table))
                self.same(stakes_fold(miss_stakes(), table), pair(folds_of(table, lambda z: two_step(*z)[0])[""]))
                self.same(plan_of(stakes_keeper(miss_stakes(), table)) == keeper(table), True)
            plan = Plan(2, rounds, some_shares(2, rounds, 2))
            self.same(losses_table(miss_stakes(), picks_of(plan)) == misses_table(plan), True)


class Papers(Case):
    def test_the_paper_returned(self):
        for width, rounds in SMALL_SHAPES:
            for seed in range(3):
                stakes, table = some_stakes(width, seed), some_table(width, rounds, seed)
                paper = stakes_paper(stakes, table)
                self.same((type(paper), len(paper), paper[0]), (tuple, 3, stakes_fold(stakes, table)))
                self.same(paper[1] == stakes_keeper(stakes, table), True)
                self.same(paper[2] == stakes_breaker(stakes, table), True)
                number, picks, foe = paper
                self.same(is_stakes_paper(stakes, table, paper), True)
                self.same(is_stakes_paper(stakes, table, ((number[0] * 4, number[1] * 4), picks, foe)), True)
                for shift in (SMALL, -SMALL, 1):
                    wrong = pair(value_of(number) + shift)
                    self.same(is_stakes_paper(stakes, table, (wrong, picks, foe)), False)

    def test_any_picks_and_plan_that_do_so(self):
        for width, rounds in SMALL_SHAPES:
            for seed in range(3):
                stakes, table = some_stakes(width, seed), some_table(width, rounds, seed)
                number, picks, foe = stakes_paper(stakes, table)
                for other in (picks, some_picks(width, rounds, seed)):
                    slack = min(value_of(table(row)) - losses_on(stakes, other, row) for row in texts(width, rounds))
                    for plan in (foe, Plan(width, rounds, some_shares(width, rounds, seed))):
                        worth = mean_by(plan, table) - lowest_losses(stakes, plan)
                        for told in (number, pair(slack), pair(worth)):
                            expected = slack >= value_of(told) >= worth
                            self.same(is_stakes_paper(stakes, table, (told, other, plan)), expected)
        stakes = Stakes(3, [[1, -3, 0], [-3, 1, 0]])
        paper = (0, Picks(3, 1, [(1, 2)]), sure_plan(3, "2"))
        self.same(is_stakes_paper(stakes, flat(3, 1, 0), paper), True)

    def test_picks_and_plans_of_another_shape(self):
        for shape in [(2, 1), (2, 0), (3, 2), (1, 3)]:
            stakes, table = some_stakes(shape[0]), flat(*shape, 0)
            number, picks, foe = stakes_paper(stakes, table)
            for other in SHAPES:
                if other != shape:
                    self.same(is_stakes_paper(stakes, table, (number, some_picks(*other), foe)), False)
                    self.same(is_stakes_paper(stakes, table, (number, picks, even_plan(*other))), False)

    def test_values_that_are_no_numbers(self):
        stakes, table = some_stakes(2), some_table(2, 2)
        _, picks, foe = stakes_paper(stakes, table)
        for wrong in NOT_NUMBERS:
            self.raises(BadNumber, {}, is_stakes_paper, stakes, table, (wrong, picks, foe))
            self.raises(BadNumber, {}, is_stakes_paper, stakes, table, (wrong, some_picks(3, 1), foe))
            self.raises(BadNumber, {}, is_stakes_paper, stakes, table, (wrong, picks, even_plan(3, 1)))


class Helpers(Case):
    def test_best_losses_and_distances(self):
        for width, rounds in SMALL_SHAPES:
            for many in (1, 2, 5):
                stakes = some_stakes(width, many)
                helpers = [some_picks(width, rounds, seed) for seed in range(many)]
                table = stakes_best(stakes, helpers)
                self.assertIs(type(table), Table)
                best = [min(losses_on(stakes, picks, row) for picks in helpers) for row in texts(width, rounds)]
                self.same((table.width, table.rounds, table.cells), (width, rounds, pairs(best)))
                self.same(stakes_distance(stakes, tuple(helpers)), pair(-model_folds(stakes, table)[""]))

    def test_distances_below_0(self):
        stakes = Stakes(2, [[3, 3], [1, 2]])
        self.same(stakes_distance(stakes, [Picks(2, 2, [0, 0, 0])]), (-2, 1))
        self.same(stakes_distance(stakes, [Picks(2, 1, [0])] * 5), (-1, 1))
        self.same(stakes_distance(stakes, [Picks(2, 1, [0]), Picks(2, 1, [1])]), (0, 1))

    def test_helpers_with_the_miss_stakes(self):
        helpers = [picks_of(sure_plan(2, "00")), picks_of(sure_plan(2, "11"))]
        self.same(stakes_best(miss_stakes(), helpers).cells, pairs([0, 1, 1, 0]))
        self.same(stakes_distance(miss_stakes(), helpers), (1, 2))
        self.same(stakes_distance(miss_stakes(), helpers[:1]), (0, 1))

    def test_wrong_lists(self):
        for call in (stakes_best, stakes_distance):
            self.raises(NoHelper, {}, call, some_stakes(2), [])
            for many in (6, 600):
                for helpers in ([some_picks(2, 1)] * many, [some_picks(3, 1), some_picks(2, 2)] * many):
                    told = {"found": len(helpers), "low": 1, "high": 5}
                    self.raises(BadCount, told, call, some_stakes(2), helpers)
                    self.raises(BadCount, told, call, some_stakes(4), helpers)
            for at in range(3):
                for other in ((2, 1), (3, 2), (1, 2)):
                    helpers = [some_picks(2, 2)] * 3
                    helpers[at] = some_picks(*other)
                    self.raises(Mismatch, {}, call, some_stakes(2), helpers)
            for width in (1, 3, 4, 5):
                self.raises(Mismatch, {}, call, some_stakes(width), [some_picks(2, 2)])


class NothingChanges(Case):
    def test_tables_and_lists_stay_as_they_were(self):
        stakes, table = some_stakes(2), Table(2, 2, [5, 0, -1, 0])
        losses, levels = stakes.losses, [(2, 4), 1]
        stakes_paper(stakes, table)
        stakes_step(stakes, levels)
        stakes_chances(stakes, levels)
        self.same((stakes.losses, levels), (losses, [(2, 4), 1]))
        self.same(table.cells, [(5, 1), (0, 1), (-1, 1), (0, 1)])
        self.same(raised(table, 0) == table, True)
        self.same(min(slacks(even_plan(2, 2), table).values()), Fraction(-2))


if __name__ == "__main__":
    unittest.main()
