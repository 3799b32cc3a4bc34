"""Points 3 to 5, 17 and 18, and the section notbehind/plans.py."""

import itertools
import unittest
from fractions import Fraction

from notbehind.errors import BadCount, BadNumber, BadRow, BadShare, BadSize, BadWeight, Mismatch
from notbehind.plans import (
    Plan, behind_plan, blended, even_plan, first_bad_share, ones_plan, renamed_plan, root_plan, round_plan, sure_plan,
)
from notbehind.tables import Table
from samples import some_plan
from support import (
    EDGE_SHAPES, MOST_ROUNDS, NOT_NUMBERS, SHAPES, SMALL_SHAPES, Case, all_texts, inner_texts, pair, share_pairs,
    some_shares, texts, value_of, wrong_texts,
)

TINY = Fraction(1, 10 ** 30)


def sure(width, outcome):
    return tuple((1, 1) if at == outcome else (0, 1) for at in range(width))


class Plans(Case):
    def test_every_shape(self):
        for width, rounds in SHAPES:
            shares = some_shares(width, rounds)
            expected = share_pairs(shares)
            for plan in (Plan(width, rounds, shares), Plan(width, rounds, tuple(shares))):
                with self.subTest(width=width, rounds=rounds):
                    self.same((plan.width, plan.rounds), (width, rounds))
                    self.same(plan.shares, expected)
                    self.same(len(plan), len(inner_texts(width, rounds)))
                    self.same([sharing for sharing in plan], expected)
                    self.same([plan(beginning) for beginning in inner_texts(width, rounds)], expected)

    def test_sharings_of_every_form(self):
        plan = Plan(3, 1, [[(2, 4), (0, 5), (3, 6)]])
        self.same(plan.shares, [((1, 2), (0, 1), (1, 2))])
        self.same(Plan(2, 1, [(0, 1)]).shares, [((0, 1), (1, 1))])
        self.same(Plan(1, 2, [[1], [(3, 3)]]).shares, [((1, 1),), ((1, 1),)])
        long = 10 ** 39 + 7
        self.same(Plan(2, 1, [[(1, long), (long - 1, long)]])(""), ((1, long), (long - 1, long)))

    def test_wrong_shapes(self):
        self.wrong_shapes(lambda width, rounds: Plan(width, rounds, [[None]] * 9))
        self.wrong_shapes(lambda width, rounds: Plan(width, rounds, []))
        self.wrong_shapes(lambda width, rounds: first_bad_share(width, rounds, []))
        self.wrong_shapes(lambda width, rounds: first_bad_share(width, rounds, [[None]] * 9))

    def test_wrong_numbers_of_sharings(self):
        for width, rounds in EDGE_SHAPES:
            due = len(inner_texts(width, rounds))
            for found in {0, due - 1, due + 1, 600} - {due, -1}:
                for item in ([None], [1] * width):
                    with self.subTest(width=width, rounds=rounds, found=found):
                        told = {"found": found, "due": due}
                        self.raises(BadSize, told, Plan, width, rounds, [item] * found)
                        self.raises(BadSize, told, first_bad_share, width, rounds, [item] * found)

    def test_texts_that_are_no_inner_beginning(self):
        for width, rounds in EDGE_SHAPES:
            plan = some_plan(width, rounds)
            for text in [*wrong_texts(width), "0" * rounds, "0" * (rounds + 1), "0" * 100]:
                with self.subTest(width=width, rounds=rounds, text=text[:10]):
                    self.raises(BadRow, {"found": text}, plan, text)

    def test_lists_passed_and_returned_are_not_kept(self):
        first, second = [(1, 2), (1, 2)], [0, 1]
        shares = [first, second, [1, 0]]
        plan = Plan(2, 2, shares)
        expected = [((1, 2), (1, 2)), ((0, 1), (1, 1)), ((1, 1), (0, 1))]
        first[0] = 5
        second.append(1)
        shares.pop()
        self.same(plan.shares, expected)
        plan.shares[0] = None
        plan.shares.append(None)
        self.same(plan.shares, expected)
        self.same(list(plan), expected)
        self.new_list(lambda: plan.shares)
        self.same(shares, [[5, (1, 2)], [0, 1, 1]])


    def test_lists_passed_stay_as_they_were(self):
        def passed():
            shares = [[(2, 4), (1, 2)], [0, 1], [1, 0]]
            return {
                "shares": shares, "ones": [(2, 4), 1, 0], "root": [(2, 4), (1, 2)],
                "plans": [even_plan(2, 1), sure_plan(2, "1")],
            }
        lists = passed()
        Plan(2, 2, lists["shares"])
        round_plan(2, lists["shares"])
        first_bad_share(2, 2, lists["shares"])
        ones_plan(2, lists["ones"])
        root_plan(lists["root"], lists["plans"])
        for name in ("shares", "ones", "root"):
            self.same(lists[name], passed()[name])
        self.assertTrue(lists["plans"] == passed()["plans"])

    def test_plans_passed_stay_as_they_were(self):
        first, second = some_plan(2, 2, 1), some_plan(2, 2, 2)
        first + second
        blended(first, second, weight=(1, 3))
        behind_plan(first, "0")
        root_plan([0, 1], [first, second])
        renamed_plan("10", first)
        self.assertTrue(first == some_plan(2, 2, 1))
        self.assertTrue(second == some_plan(2, 2, 2))


class Sharings(Case):
    def test_numbers_that_are_no_sharing_at_any_place(self):
        for width, rounds in SMALL_SHAPES:
            beginnings = inner_texts(width, rounds)
            for at, beginning in enumerate(beginnings):
                for y, z in itertools.product(range(width), repeat=2):
                    for change in (TINY, -TINY, Fraction(1), Fraction(-3)):
                        shares = [[(1, width)] * width for _ in beginnings]
                        shares[at][y] = pair(Fraction(1, width) + change)
                        if y != z:
                            shares[at][z] = pair(Fraction(1, width) - change)
                        right = y != z and abs(change) == TINY
                        with self.subTest(width=width, at=at, y=y, z=z, change=change):
                            if right:
                                self.same(first_bad_share(width, rounds, shares), None)
                                self.same(Plan(width, rounds, shares)(beginning)[y], pair(Fraction(1, width) + change))
                            else:
                                self.same(first_bad_share(width, rounds, shares), beginning)
                                self.raises(BadShare, {"at": beginning}, Plan, width, rounds, shares)

    def test_shares_below_0_though_the_sum_is_1(self):
        for shares in [[2, -1], [-1, 2], [pair(1 + TINY), pair(-TINY)], [pair(-TINY), pair(1 + TINY)]]:
            self.raises(BadShare, {"at": ""}, Plan, 2, 1, [shares])
        self.raises(BadShare, {"at": ""}, Plan, 3, 1, [[1, 1, -1]])
        self.raises(BadShare, {"at": ""}, Plan, 1, 1, [[0]])
        self.raises(BadShare, {"at": ""}, Plan, 1, 1, [[2]])
        self.raises(BadShare, {"at": ""}, Plan, 2, 1, [[0, 0]])
        self.raises(BadShare, {"at": ""}, Plan, 2, 1, [(1, 2)])
        self.raises(BadShare, {"at": "1"}, Plan, 2, 2, [[0, 1], [1, 0], [1, 1]])

    def test_too_many_or_too_few_numbers(self):
        for width, rounds in SMALL_SHAPES:
            beginnings = inner_texts(width, rounds)
            for at in range(len(beginnings)):
                for found in {0, width - 1, width + 1, 300} - {width}:
                    for number in (0, 1, None):
                        shares = [[(1, width)] * width for _ in beginnings]
                        shares[at] = [number] * found
                        told = {"found": found, "due": width}
                        self.raises(BadSize, told, Plan, width, rounds, shares)
                        self.raises(BadSize, told, first_bad_share, width, rounds, shares)

    def test_values_that_are_no_numbers_at_any_place(self):
        for wrong in NOT_NUMBERS:
            for at, y in itertools.product(range(3), range(2)):
                shares = [[1, 0], [0, 1], [(1, 2), (1, 2)]]
                shares[at][y] = wrong
                with self.subTest(wrong=wrong, at=at, y=y):
                    self.raises(BadNumber, {}, Plan, 2, 2, shares)
                    self.raises(BadNumber, {}, first_bad_share, 2, 2, shares)
                    shares[at][1 - y] = 5
                    self.raises(BadNumber, {}, Plan, 2, 2, shares)

    def test_the_first_wrong_item_decides(self):
        good, short, none, off = [1, 0], [1], [None, 1], [1, 1]
        told = {BadSize: {"found": 1, "due": 2}, BadNumber: {}, BadShare: {}}
        for items in itertools.product([(good, None), (short, BadSize), (none, BadNumber), (off, BadShare)], repeat=3):
            shares = [item for item, _ in items]
            errors = [error for _, error in items if error is not None]
            hard = [error for error in errors if error is not BadShare]
            bad = [beginning for beginning, (_, error) in zip(["", "0", "1"], items) if error is BadShare]
            with self.subTest(shares=shares):
                if errors:
                    attributes = {"at": bad[0]} if errors[0] is BadShare else told[errors[0]]
                    self.raises(errors[0], attributes, Plan, 2, 2, shares)
                else:
                    Plan(2, 2, shares)
                if hard:
                    self.raises(hard[0], told[hard[0]], first_bad_share, 2, 2, shares)
                else:
                    self.same(first_bad_share(2, 2, shares), bad[0] if bad else None)

    def test_one_item_wrong_in_several_ways(self):
        self.raises(BadSize, {"found": 3, "due": 2}, Plan, 2, 1, [[None, 5, 5]])
        self.raises(BadNumber, {}, Plan, 2, 1, [[7, None]])
        self.raises(BadSize, {"found": 3, "due": 2}, first_bad_share, 2, 1, [[None, 5, 5]])
        self.raises(BadNumber, {}, first_bad_share, 2, 1, [[7, None]])

    def test_first_bad_share_of_good_shares(self):
        for width, rounds in SHAPES:
            self.same(first_bad_share(width, rounds, some_shares(width, rounds)), None)
            self.same(first_bad_share(width, rounds, tuple(some_shares(width, rounds))), None)


class Equality(Case):
    def test_equal_plans(self):
        for width, rounds in SHAPES:
            self.same(some_plan(width, rounds) == some_plan(width, rounds), True)
        self.same(Plan(2, 1, [[(2, 4), (1, 2)]]) == Plan(2, 1, (((1, 2), (3, 6)),)), True)

    def test_other_plans(self):
        for width, rounds in SMALL_SHAPES:
            if width > 1:
                for at in range(len(inner_texts(width, rounds))):
                    shares = even_plan(width, rounds).shares
                    shares[at] = [0] * (width - 1) + [1]
                    self.same(even_plan(width, rounds) == Plan(width, rounds, shares), False)
        self.same(even_plan(2, 0) == even_plan(3, 0), False)
        self.same(even_plan(1, 1) == even_plan(1, 2), False)
        self.same(even_plan(2, 1) == even_plan(2, 2), False)
        self.same(even_plan(1, 0) == even_plan(2, 0), False)

    def test_values_of_other_kinds(self):
        plan = even_plan(2, 1)
        for other in [None, False, 0, "", [], (), plan.shares, tuple(plan.shares), Table(2, 1, [0, 0]), {}]:
            self.same(plan == other, False)
        self.same(even_plan(2, 0) == [], False)
        self.same(even_plan(2, 0) == Table(2, 0, [0]), False)


class Sums(Case):
    def test_one_behind_the_other(self):
        for width, most in MOST_ROUNDS.items():
            for before in range(most + 1):
                for after in range(min(most - before, 3) + 1):
                    first, second = some_plan(width, before, 2), some_plan(width, after, 3)
                    plan = first + second
                    self.assertIs(type(plan), Plan)
                    self.same((plan.width, plan.rounds), (width, before + after))
                    for beginning in inner_texts(width, before + after):
                        if len(beginning) < before:
                            self.same(plan(beginning), first(beginning))
                        else:
                            self.same(plan(beginning), second(beginning[before:]))
                    self.assertTrue(first == some_plan(width, before, 2))
                    self.assertTrue(second == some_plan(width, after, 3))

    def test_plans_of_no_round(self):
        for width, rounds in EDGE_SHAPES:
            plan = some_plan(width, rounds)
            self.same(plan + even_plan(width, 0) == plan, True)
            self.same(even_plan(width, 0) + plan == plan, True)

    def test_unlike_widths_and_too_many_rounds(self):
        for first, second in [((1, 1), (2, 1)), ((2, 1), (3, 1)), ((2, 0), (3, 0)), ((2, 8), (3, 5)), ((5, 3), (1, 8))]:
            self.raises(Mismatch, {}, lambda: some_plan(*first) + some_plan(*second))
        for width, most in MOST_ROUNDS.items():
            for before, after in ((most, 1), (1, most), (most, most)):
                told = {"found": before + after, "low": 0, "high": most}
                self.raises(BadCount, told, lambda: even_plan(width, before) + even_plan(width, after))
            self.same(len(even_plan(width, most - 1) + even_plan(width, 1)), len(even_plan(width, most)))


class BuiltPlans(Case):
    def test_even_plan(self):
        for width, rounds in SHAPES:
            plan = even_plan(width, rounds)
            self.same((plan.width, plan.rounds), (width, rounds))
            self.same(plan.shares, [((1, width),) * width] * len(inner_texts(width, rounds)))
        self.wrong_shapes(even_plan)

    def test_sure_plan(self):
        for width, most in MOST_ROUNDS.items():
            for row in {"", "0", "0" * most, "01234"[:width][:most], ("43210"[-width:] * 4)[:most], "01234"[width - 1]}:
                plan = sure_plan(width, row)
                self.same((plan.width, plan.rounds), (width, len(row)))
                for beginning in inner_texts(width, len(row)):
                    self.same(plan(beginning), sure(width, int(row[len(beginning)])))

    def test_sure_plan_with_wrong_arguments(self):
        for wrong in (0, 6, -1, True, False, 10 ** 30):
            for row in ("", "0", "x", "0" * 9):
                self.raises(BadCount, {"found": wrong, "low": 1, "high": 5}, sure_plan, wrong, row)
        for width, most in MOST_ROUNDS.items():
            for row in [*wrong_texts(width), "0" * (most + 1), "0" * 1000]:
                self.raises(BadRow, {"found": row}, sure_plan, width, row)

    def test_round_plan(self):
        for width, most in MOST_ROUNDS.items():
            for rounds in range(most + 1):
                shares = some_shares(width, 1, 1) + some_shares(width, 1, 2) + some_shares(width, 1, 3)
                shares = (shares * 3)[:rounds]
                expected = share_pairs(shares)
                for kept in (shares, tuple(shares)):
                    plan = round_plan(width, kept)
                    self.same((plan.width, plan.rounds), (width, rounds))
                    for beginning in inner_texts(width, rounds):
                        self.same(plan(beginning), expected[len(beginning)])

    def test_round_plan_with_wrong_arguments(self):
        for wrong in (0, 6, True):
            self.raises(BadCount, {"found": wrong, "low": 1, "high": 5}, round_plan, wrong, [[None]] * 20)
        for width, most in MOST_ROUNDS.items():
            for many in (most + 1, 600):
                for item in ([None], [1] * width):
                    told = {"found": many, "low": 0, "high": most}
                    self.raises(BadCount, told, round_plan, width, [item] * many)
            good = [1] + [0] * (width - 1)
            for at in range(most):
                for wrong, error, told in [
                    ([0] * width, BadShare, {"at": "0" * at}), ([2] + [0] * (width - 1), BadShare, {"at": "0" * at}),
                    ([None] * width, BadNumber, {}), ([True] + good[1:], BadNumber, {}),
                    ([None] * (width + 1), BadSize, {"found": width + 1, "due": width}),
                    ([], BadSize, {"found": 0, "due": width}),
                ]:
                    shares = [good] * most
                    shares[at] = wrong
                    self.raises(error, told, round_plan, width, shares)
                    shares[at + 1:] = [[1, 1, 1, 1, 1, 1]] * (most - at - 1)
                    self.raises(error, told, round_plan, width, shares)

    def test_ones_plan(self):
        for rounds in range(9):
            ones = [(at % 4, 3 + at % 5) for at in range(2 ** rounds - 1)]
            if rounds > 1:
                ones[:3] = [0, 1, (2, 2)]
            for kept in (ones, tuple(ones)):
                plan = ones_plan(rounds, kept)
                self.same((plan.width, plan.rounds), (2, rounds))
                self.same(plan.shares, [(pair(1 - value_of(one)), pair(value_of(one))) for one in ones])

    def test_ones_plan_with_wrong_arguments(self):
        for wrong in (-1, 9, True, False, 10 ** 30):
            self.raises(BadCount, {"found": wrong, "low": 0, "high": 8}, ones_plan, wrong, [None])
        for rounds, found in [(0, 1), (1, 0), (1, 2), (2, 2), (2, 4), (8, 254), (8, 256), (0, 600)]:
            told = {"found": found, "due": 2 ** rounds - 1}
            self.raises(BadSize, told, ones_plan, rounds, [None] * found)
        for at, beginning in enumerate(inner_texts(2, 3)):
            for wrong in (-1, 2, pair(-TINY), pair(1 + TINY), (-1, 2), (3, 2)):
                ones = [(1, 2)] * 7
                ones[at] = wrong
                self.raises(BadShare, {"at": beginning}, ones_plan, 3, ones)
                ones[at + 1:] = [None] * (6 - at)
                self.raises(BadShare, {"at": beginning}, ones_plan, 3, ones)
            for wrong in NOT_NUMBERS:
                ones = [(1, 2)] * 7
                ones[at] = wrong
                self.raises(BadNumber, {}, ones_plan, 3, ones)
                ones[at + 1:] = [5] * (6 - at)
                self.raises(BadNumber, {}, ones_plan, 3, ones)

    def test_blended(self):
        for width, rounds in SHAPES:
            first, second = some_plan(width, rounds, 2), some_plan(width, rounds, 3)
            for weight in (0, 1, (1, 2), (4, 6), (0, 2), (10 ** 30 - 1, 10 ** 30)):
                part = value_of(weight)
                plan = blended(first, second, weight=weight)
                self.same((plan.width, plan.rounds), (width, rounds))
                for mixed, left, right in zip(plan.shares, first.shares, second.shares):
                    self.same(mixed, tuple(
                        pair((1 - part) * Fraction(*one) + part * Fraction(*other)) for one, other in zip(left, right)
                    ))

    def test_blended_with_wrong_arguments(self):
        for first, second in [((2, 1), (2, 2)), ((2, 1), (3, 1)), ((2, 0), (3, 0)), ((1, 1), (1, 2))]:
            for weight in (0, 2, None):
                self.raises(Mismatch, {}, blended, even_plan(*first), even_plan(*second), weight=weight)
        for rounds in (0, 1):
            plan = even_plan(2, rounds)
            for weight in (-1, 2, pair(-TINY), pair(1 + TINY)):
                self.raises(BadWeight, {}, blended, plan, plan, weight=weight)
            for weight in NOT_NUMBERS:
                self.raises(BadNumber, {}, blended, plan, plan, weight=weight)
        with self.assertRaises(TypeError):
            blended(plan, plan, 0)

    def test_behind_plan(self):
        for width, rounds in SHAPES:
            plan = some_plan(width, rounds)
            for beginning in all_texts(width, rounds):
                part = behind_plan(plan, beginning)
                self.same((part.width, part.rounds), (width, rounds - len(beginning)))
                expected = [plan(beginning + rest) for rest in inner_texts(width, rounds - len(beginning))]
                self.same(part.shares, expected)

    def test_behind_plan_of_no_beginning(self):
        for width, rounds in EDGE_SHAPES:
            for text in [*wrong_texts(width), "0" * (rounds + 1), "0" * 100]:
                self.raises(BadRow, {"found": text}, behind_plan, some_plan(width, rounds), text)


class RootPlans(Case):
    def test_root_plan(self):
        for width, most in MOST_ROUNDS.items():
            for rounds in range(most):
                plans = [some_plan(width, rounds, seed) for seed in range(width)]
                shares = some_shares(width, 1, 4)[0]
                for kept, others in ((list(shares), plans), (tuple(shares), tuple(plans))):
                    plan = root_plan(kept, others)
                    self.same((plan.width, plan.rounds), (width, rounds + 1))
                    self.same(plan(""), share_pairs([shares])[0])
                    for outcome in range(width):
                        self.assertTrue(behind_plan(plan, str(outcome)) == plans[outcome])

    def test_wrong_shares_go_ahead_of_wrong_plans(self):
        plans = [even_plan(2, 1), even_plan(3, 0), even_plan(2, 8)]
        for many in (0, 6, 600):
            self.raises(BadCount, {"found": many, "low": 1, "high": 5}, root_plan, [None] * many, plans)
        for wrong in NOT_NUMBERS:
            self.raises(BadNumber, {}, root_plan, [wrong, 5], plans)
            self.raises(BadNumber, {}, root_plan, [5, wrong], plans)
        for shares in ([1, 1], [2, -1], [0, 0], [pair(1 + TINY), 0], [pair(1 - TINY), 0]):
            self.raises(BadShare, {"at": ""}, root_plan, shares, plans)

    def test_wrong_plans(self):
        for shares in ([1], [1, 0], [1, 0, 0], [0, 0, 1, 0, 0]):
            for many in {0, len(shares) - 1, len(shares) + 1, 600} - {len(shares)}:
                told = {"found": many, "due": len(shares)}
                self.raises(BadSize, told, root_plan, shares, [even_plan(len(shares), 0)] * many)
        for shapes in [
            [(3, 0), (2, 0)], [(2, 0), (3, 0)], [(3, 1), (3, 1)], [(2, 0), (2, 1)], [(2, 1), (2, 0)], [(1, 0), (1, 0)],
            [(2, 8), (2, 7)], [(2, 8), (3, 5)],
        ]:
            self.raises(Mismatch, {}, root_plan, [1, 0], [even_plan(*shape) for shape in shapes])
        for width, most in MOST_ROUNDS.items():
            told = {"found": most + 1, "low": 0, "high": most}
            self.raises(BadCount, told, root_plan, [(1, width)] * width, [even_plan(width, most)] * width)


class RenamedPlans(Case):
    def test_renamed_plan(self):
        for order in ("0", "01", "10", "120", "201", "3012", "1302", "24130"):
            width = len(order)
            for rounds in range(min(MOST_ROUNDS[width], 3) + 1):
                plan = some_plan(width, rounds)
                made = renamed_plan(order, plan)
                self.same((made.width, made.rounds), (width, rounds))
                for beginning in inner_texts(width, rounds):
                    sharing = made("".join(order[int(letter)] for letter in beginning))
                    for outcome in range(width):
                        self.same(sharing[int(order[outcome])], plan(beginning)[outcome])

    def test_wrong_arguments(self):
        for order, width in [("0", 2), ("10", 1), ("01", 3), ("012", 2), ("01234", 4)]:
            for rounds in (0, 1):
                self.raises(Mismatch, {}, renamed_plan, order, even_plan(width, rounds))
        for order in ["", "1", "00", "02", "011", "012345", "a", "0 "]:
            self.raises(BadRow, {"found": order}, renamed_plan, order, even_plan(2, 1))
            self.raises(BadRow, {"found": order}, renamed_plan, order, even_plan(len(order) % 5 + 1, 0))


class OrderOfPlaces(Case):
    def test_sharings_are_listed_by_length_then_as_texts(self):
        plan = Plan(2, 3, [[pair(Fraction(at, 10)), pair(Fraction(10 - at, 10))] for at in range(7)])
        self.same([plan(text)[0] for text in ("", "0", "1", "00", "01", "10", "11")], [
            (0, 1), (1, 10), (1, 5), (3, 10), (2, 5), (1, 2), (3, 5),
        ])
        self.same(len(texts(2, 2)), 4)


if __name__ == "__main__":
    unittest.main()
