"""Points 48 and 49, and the section notbehind/sleepers.py."""

import unittest
from fractions import Fraction

from notbehind.errors import BadCount, BadRow, Mismatch, NoHelper
from notbehind.helpers import distance
from notbehind.misses import row_misses
from notbehind.plans import Plan, even_plan, sure_plan
from notbehind.sleepers import (
    Sleeper, are_apart, awake_rounds, behind_sleeper, counted_misses, farthest_behind, relay, speaker, stood_distance,
    stood_in,
)
from samples import some_plan
from support import EDGE_SHAPES, SHAPES, SMALL_SHAPES, Case, inner_texts, pair, texts, value_of, wrong_texts


def some_awake(width, rounds, seed=1):
    return [b for at, b in enumerate(inner_texts(width, rounds)) if (at * 5 + seed * 3) % 7 % 3 == 0]


def some_sleeper(width, rounds, seed=1):
    return Sleeper(some_plan(width, rounds, seed), some_awake(width, rounds, seed))


def some_sleepers(width, rounds, many, seed=1):
    return [some_sleeper(width, rounds, seed + at) for at in range(many)]


def always(plan):
    return Sleeper(plan, inner_texts(plan.width, plan.rounds))


def apart(width, rounds, many):
    """Sleepers of which at each inner beginning at most one is awake."""
    beginnings = inner_texts(width, rounds)
    return [Sleeper(some_plan(width, rounds, at + 1), beginnings[at::many + 1]) for at in range(many)]


def misses_in(plan, sleeper, row):
    """The misses of a plan where the sleeper is awake."""
    rounds = [at for at in range(len(row)) if row[:at] in sleeper.awake]
    return sum((1 - value_of(plan(row[:at])[int(row[at])]) for at in rounds), Fraction(0))


class Objects(Case):
    def test_properties(self):
        for width, rounds in SHAPES:
            plan, awake = some_plan(width, rounds), some_awake(width, rounds)
            for told in (awake, tuple(awake), awake[::-1], awake * 2):
                sleeper = Sleeper(plan, told)
                self.same((sleeper.width, sleeper.rounds, sleeper.awake), (width, rounds, awake))
                self.same(sleeper.plan == plan, True)
                self.assertIs(type(sleeper.plan), Plan)
        self.same(Sleeper(even_plan(2, 2), ["1", "", "1", "0", ""]).awake, ["", "0", "1"])
        self.same(Sleeper(even_plan(2, 2), []).awake, [])
        self.new_list(lambda: some_sleeper(2, 3).awake)

    def test_lists_are_not_kept(self):
        awake = ["", "0"]
        sleeper = Sleeper(even_plan(2, 2), awake)
        awake.clear()
        self.same(sleeper.awake, ["", "0"])

    def test_texts_in_sleepers(self):
        for width, rounds in SMALL_SHAPES:
            for sleeper in (some_sleeper(width, rounds), always(even_plan(width, rounds)), Sleeper(even_plan(width, rounds), [])):
                for text in texts(width, rounds) + inner_texts(width, rounds) + wrong_texts(width) + ["0" * 99]:
                    self.same(text in sleeper, text in sleeper.awake)
                    self.same(text not in sleeper, text not in sleeper.awake)

    def test_wrong_beginnings(self):
        for width, rounds in EDGE_SHAPES:
            plan, inner = even_plan(width, rounds), inner_texts(width, rounds)
            for text in [*wrong_texts(width), "0" * rounds, "0" * (rounds + 1), "0" * 99]:
                if text not in inner:
                    self.raises(BadRow, {"found": text}, Sleeper, plan, [text])
                    self.raises(BadRow, {"found": text}, Sleeper, plan, inner + [text, "y"])
                    self.raises(BadRow, {"found": text}, Sleeper, plan, inner[:1] + [text] + inner)


class Misses(Case):
    def test_rounds_and_counted_misses(self):
        for width, rounds in SHAPES:
            for sleeper in some_sleepers(width, rounds, 3):
                for row in texts(width, rounds)[::5]:
                    expected = [at for at in range(rounds) if row[:at] in sleeper.awake]
                    self.same(awake_rounds(sleeper, row), expected)
                    self.same(counted_misses(sleeper, row), pair(misses_in(sleeper.plan, sleeper, row)))

    def test_asleep_everywhere_and_awake_everywhere(self):
        for width, rounds in SHAPES:
            plan = some_plan(width, rounds)
            for row in texts(width, rounds)[::9]:
                self.same(awake_rounds(always(plan), row), list(range(rounds)))
                self.same(counted_misses(always(plan), row), row_misses(plan, row))
                self.same(awake_rounds(Sleeper(plan, []), row), [])
                self.same(counted_misses(Sleeper(plan, []), row), (0, 1))
                self.same(behind_sleeper(even_plan(width, rounds), Sleeper(plan, []), row), (0, 1))

    def test_distances_behind_a_sleeper(self):
        for width, rounds in SHAPES:
            chooser, sleeper = some_plan(width, rounds, 5), some_sleeper(width, rounds, 2)
            for row in texts(width, rounds)[::5]:
                expected = misses_in(chooser, sleeper, row) - misses_in(sleeper.plan, sleeper, row)
                self.same(behind_sleeper(chooser, sleeper, row), pair(expected))
        sleeper = Sleeper(sure_plan(2, "01"), ["0"])
        self.same(behind_sleeper(sure_plan(2, "00"), sleeper, "01"), (1, 1))
        self.same(behind_sleeper(sure_plan(2, "00"), sleeper, "00"), (-1, 1))
        self.same(behind_sleeper(sure_plan(2, "00"), sleeper, "11"), (0, 1))

    def test_lists_are_new(self):
        self.new_list(lambda: awake_rounds(always(even_plan(2, 3)), "010"))

    def test_wrong_rows_and_shapes(self):
        for width, rounds in EDGE_SHAPES:
            sleeper, plan = some_sleeper(width, rounds), even_plan(width, rounds)
            for row in [*wrong_texts(width), "0" * (rounds + 1), "0" * 99] + ["0" * (rounds - 1)] * (rounds > 0):
                if row not in texts(width, rounds):
                    self.raises(BadRow, {"found": row}, awake_rounds, sleeper, row)
                    self.raises(BadRow, {"found": row}, counted_misses, sleeper, row)
                    self.raises(BadRow, {"found": row}, behind_sleeper, plan, sleeper, row)
                    for other in [(2, 4), (3, 2), (1, 4), (5, 2)]:
                        self.raises(Mismatch, {}, behind_sleeper, even_plan(*other), sleeper, row)
            for other in SHAPES:
                if other != (width, rounds):
                    self.raises(Mismatch, {}, behind_sleeper, even_plan(*other), sleeper, "0" * rounds)
                    self.raises(Mismatch, {}, stood_in, sleeper, even_plan(*other))
                    self.raises(Mismatch, {}, relay, [sleeper], even_plan(*other))
                    self.raises(Mismatch, {}, farthest_behind, even_plan(*other), [sleeper])
                    self.raises(Mismatch, {}, stood_distance, [sleeper], even_plan(*other))


class Relays(Case):
    def test_speakers_and_relays(self):
        for width, rounds in SHAPES:
            for many in (1, 2, 5):
                sleepers, rest = some_sleepers(width, rounds, many), even_plan(width, rounds)
                plan = relay(tuple(sleepers), rest)
                self.assertIs(type(plan), Plan)
                self.same((plan.width, plan.rounds), (width, rounds))
                for b in inner_texts(width, rounds):
                    at = next((at for at, sleeper in enumerate(sleepers) if b in sleeper.awake), None)
                    self.same(speaker(sleepers, b), at)
                    self.same(plan(b), rest(b) if at is None else sleepers[at].plan(b))

    def test_standing_in(self):
        for width, rounds in SHAPES:
            sleeper, plan = some_sleeper(width, rounds), some_plan(width, rounds, 6)
            found = stood_in(sleeper, plan)
            self.assertIs(type(found), Plan)
            for b in inner_texts(width, rounds):
                self.same(found(b), sleeper.plan(b) if b in sleeper.awake else plan(b))
            self.same(stood_in(always(plan), even_plan(width, rounds)) == plan, True)
            self.same(stood_in(Sleeper(plan, []), even_plan(width, rounds)) == even_plan(width, rounds), True)

    def test_apart(self):
        sleeper, nobody = Sleeper(even_plan(2, 2), ["0"]), Sleeper(even_plan(2, 2), [])
        other = Sleeper(even_plan(2, 2), ["1", ""])
        self.same(are_apart([sleeper]), True)
        self.same(are_apart([sleeper, other]), True)
        self.same(are_apart((sleeper, other, nobody, nobody)), True)
        self.same(are_apart([sleeper, sleeper]), False)
        self.same(are_apart([nobody, nobody]), True)
        self.same(are_apart([sleeper, other, Sleeper(sure_plan(2, "00"), ["0"])]), False)
        self.same(are_apart([always(even_plan(2, 0))] * 5), True)
        self.same(are_apart([always(even_plan(2, 1))] * 2), False)
        for width, rounds in SHAPES:
            for many in range(1, 6):
                self.same(are_apart(apart(width, rounds, many)), True)

    def test_relays_of_sleepers_that_are_apart(self):
        for width, rounds in SHAPES:
            sleepers = apart(width, rounds, 3)
            plan = relay(sleepers, even_plan(width, rounds))
            for row in texts(width, rounds)[::5]:
                for sleeper in sleepers:
                    self.same(behind_sleeper(plan, sleeper, row), (0, 1))
            self.same(farthest_behind(plan, sleepers), ((0, 1), 0, "0" * rounds))

    def test_relays_of_sleepers_that_are_not_apart(self):
        first, second = always(sure_plan(2, "00")), Sleeper(sure_plan(2, "11"), ["", "1"])
        plan = relay([first, second], even_plan(2, 2))
        self.same(plan == sure_plan(2, "00"), True)
        self.same(behind_sleeper(plan, second, "11"), (2, 1))
        self.same(relay([second, first], even_plan(2, 2)).shares, [((0, 1), (1, 1)), ((1, 1), (0, 1)), ((0, 1), (1, 1))])


class Farthest(Case):
    def test_the_first_sleeper_and_the_first_row(self):
        for width, rounds in SMALL_SHAPES:
            for seed in range(4):
                chooser, sleepers = some_plan(width, rounds, seed), some_sleepers(width, rounds, 3, seed)
                found = [
                    (misses_in(chooser, sleeper, row) - misses_in(sleeper.plan, sleeper, row), at, row)
                    for at, sleeper in enumerate(sleepers) for row in texts(width, rounds)
                ]
                most = max(value for value, _, _ in found)
                value, at, row = next(told for told in found if told[0] == most)
                self.same(farthest_behind(chooser, tuple(sleepers)), (pair(value), at, row))

    def test_ties_and_distances_below_0(self):
        sleepers = [Sleeper(sure_plan(2, "00"), []), Sleeper(sure_plan(2, "11"), []), always(sure_plan(2, "11"))]
        self.same(farthest_behind(sure_plan(2, "11"), sleepers), ((0, 1), 0, "00"))
        self.same(farthest_behind(sure_plan(2, "11"), sleepers[1:]), ((0, 1), 0, "00"))
        self.same(farthest_behind(sure_plan(2, "00"), sleepers), ((2, 1), 2, "11"))
        self.same(farthest_behind(even_plan(2, 2), [always(sure_plan(2, "01"))] * 2), ((1, 1), 0, "01"))
        self.same(farthest_behind(even_plan(2, 0), [always(even_plan(2, 0))]), ((0, 1), 0, ""))
        self.same(farthest_behind(sure_plan(1, "00"), [always(sure_plan(1, "00"))]), ((0, 1), 0, "00"))

    def test_stood_distances(self):
        for width, rounds in SMALL_SHAPES:
            for many in (1, 2, 5):
                sleepers, plan = some_sleepers(width, rounds, many), some_plan(width, rounds, 7)
                helpers = [stood_in(sleeper, plan) for sleeper in sleepers]
                self.same(stood_distance(tuple(sleepers), plan), distance(helpers))
        sleepers = [Sleeper(sure_plan(2, "00"), [""]), Sleeper(sure_plan(2, "11"), [""])]
        self.same(stood_distance(sleepers, even_plan(2, 2)), (1, 2))
        self.same(stood_distance([Sleeper(sure_plan(2, "00"), [])] * 2, even_plan(2, 2)), (0, 1))


class WrongLists(Case):
    def calls(self, sleepers):
        plan = even_plan(2, 2)
        for told in ("", "x"):
            yield lambda told=told: speaker(sleepers, told)
        for other in (plan, even_plan(5, 3)):
            yield lambda other=other: relay(sleepers, other)
            yield lambda other=other: farthest_behind(other, sleepers)
            yield lambda other=other: stood_distance(sleepers, other)
        yield lambda: are_apart(sleepers)

    def test_no_sleeper_and_too_many(self):
        for call in self.calls([]):
            self.raises(NoHelper, {}, call)
        for many in (6, 600):
            for call in self.calls([some_sleeper(2, 2)] * many):
                self.raises(BadCount, {"found": many, "low": 1, "high": 5}, call)

    def test_unlike_shapes(self):
        for many in range(2, 6):
            for at in range(many):
                for other in ((2, 1), (3, 2), (1, 2)):
                    sleepers = [some_sleeper(2, 2)] * many
                    sleepers[at] = some_sleeper(*other)
                    for call in self.calls(sleepers):
                        self.raises(Mismatch, {}, call)

    def test_wrong_beginnings(self):
        for width, rounds in EDGE_SHAPES:
            for text in [*wrong_texts(width), "0" * rounds, "0" * 99]:
                if text not in inner_texts(width, rounds):
                    self.raises(BadRow, {"found": text}, speaker, [some_sleeper(width, rounds)], text)

    def test_lists_stay_as_they_were(self):
        sleepers = some_sleepers(2, 2, 3)
        kept = list(sleepers)
        relay(sleepers, even_plan(2, 2))
        are_apart(sleepers)
        farthest_behind(even_plan(2, 2), sleepers)
        stood_distance(sleepers, even_plan(2, 2))
        self.assertEqual(len(sleepers), 3)
        for now, before in zip(sleepers, kept):
            self.assertIs(now, before)


if __name__ == "__main__":
    unittest.main()
