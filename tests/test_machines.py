"""Points 36 and 37, and the section notbehind/machines.py."""

import unittest
from fractions import Fraction

from model import misses_on
from notbehind.errors import BadCount, BadNumber, BadRow, BadShare, BadSize, BadText
from notbehind.machines import (
    Machine, constant_machine, last_machine, machine_misses, machine_plan, machine_text, read_machine, run_states,
)
from notbehind.misses import row_misses
from notbehind.plans import Plan, even_plan
from notbehind.tables import flat
from support import (
    HUGE, MOST_ROUNDS, NOT_NUMBERS, SHAPES, Case, all_texts, inner_texts, pair, share_pairs, some_shares, texts, value_of,
    wrong_counts, wrong_texts,
)

HALVES = [(1, 2), (1, 2)]


def some_tells(width, states, seed=1):
    """Sharings of a width, one for each state."""
    return (some_shares(width, MOST_ROUNDS[width], seed) * 6)[:states]


def some_moves(width, states, seed=1):
    return [[(3 * state + 5 * y + seed) % states for y in range(width)] for state in range(states)]


def some_machine(width, states, seed=1):
    start = (seed + 2) % states
    return Machine(width, some_tells(width, states, seed), some_moves(width, states, seed), start=start)


def sizes():
    return [(width, states) for width in range(1, 6) for states in range(1, 7)]


def states_on(machine, text):
    found = [machine.start]
    for outcome in text:
        found.append(machine.moves[found[-1]][int(outcome)])
    return found


class Machines(Case):
    def test_properties(self):
        for width, states in sizes():
            tells, moves = some_tells(width, states), some_moves(width, states)
            for start in range(states):
                machine = Machine(width, tells, moves, start=start)
                self.same((machine.width, machine.states, machine.start), (width, states, start))
                self.same(machine.tells, share_pairs(tells))
                self.same(machine.moves, [tuple(nexts) for nexts in moves])
            machine = Machine(width, tuple(tuple(item) for item in tells), tuple(tuple(item) for item in moves))
            self.same(machine.start, 0)
            self.same(machine.tells, share_pairs(tells))
            self.same(machine.moves, [tuple(nexts) for nexts in moves])
        self.same(Machine(2, [[(2, 4), (3, 6)]], [[0, 0]]).tells, [((1, 2), (1, 2))])

    def test_lists_are_new_and_not_kept(self):
        tells, moves = [[1, 0], [0, 1]], [[0, 1], [1, 0]]
        machine = Machine(2, tells, moves)
        tells[0][0] = 7
        moves[0][0] = 7
        tells.append(3)
        moves.clear()
        self.same(machine.tells, [((1, 1), (0, 1)), ((0, 1), (1, 1))])
        self.same(machine.moves, [(0, 1), (1, 0)])
        self.new_list(lambda: machine.tells)
        self.new_list(lambda: machine.moves)
        self.new_list(lambda: run_states(machine, "01"))

    def test_equal_machines(self):
        machine = Machine(2, [HALVES, [0, 1]], [[0, 1], [1, 0]], start=1)
        self.same(machine == Machine(2, (((2, 4), (1, 2)), (0, (3, 3))), ((0, 1), (1, 0)), start=1), True)
        self.same(machine == machine, True)
        for other in (
            Machine(2, [HALVES, [0, 1]], [[0, 1], [1, 0]]), Machine(2, [HALVES, [1, 0]], [[0, 1], [1, 0]], start=1),
            Machine(2, [HALVES, [0, 1]], [[0, 1], [0, 0]], start=1), Machine(2, [HALVES], [[0, 0]]),
            Machine(2, [HALVES, [0, 1], [0, 1]], [[0, 1], [1, 0], [0, 0]], start=1),
            Machine(1, [[1], [1]], [[0], [1]], start=1),
        ):
            self.same(machine == other, False)
        for other in (None, 1, True, "machine", (), [], machine.tells, even_plan(2, 1), flat(2, 1, 0), object()):
            self.same(machine == other, False)
        self.same(even_plan(2, 1) == machine, False)
        self.same(flat(2, 1, 1) == machine, False)
        self.same(Machine(1, [[1]], [[0]]) == Machine(2, [[1, 0]], [[0, 0]]), False)


class WrongMachines(Case):
    def test_widths(self):
        for wrong in wrong_counts(1, 5):
            told = {"found": wrong, "low": 1, "high": 5}
            self.raises(BadCount, told, Machine, wrong, [HALVES], [[0, 0]])
            self.raises(BadCount, told, Machine, wrong, [], [None], start=HUGE)
            self.raises(BadCount, told, constant_machine, wrong, [None])
            self.raises(BadCount, told, last_machine, wrong, [None])

    def test_sharings(self):
        for many in (0, 7, 600):
            told = {"found": many, "low": 1, "high": 6}
            self.raises(BadCount, told, Machine, 2, [HALVES] * many, [[0, 0]])
            self.raises(BadCount, told, Machine, 2, [[None]] * many, [[0, 0]] * many)
        for width, states in sizes():
            tells, moves = some_tells(width, states), some_moves(width, states)
            for state in range(states):
                for many in (0, width - 1, width + 1):
                    wrong = tells[:state] + [[None] * many] + tells[state + 1:]
                    self.raises(BadSize, {"found": many, "due": width}, Machine, width, wrong, moves)
                for numbers in ([0] * width, [2] + [0] * (width - 1), [2, -1] + [0] * (width - 2), [(1, width + 1)] * width):
                    if len(numbers) == width:
                        wrong = tells[:state] + [numbers] + tells[state + 1:]
                        self.raises(BadShare, {"at": state}, Machine, width, wrong, moves)
                        self.raises(BadShare, {"at": state}, Machine, width, wrong, [], start=9)
                wrong = tells[:state] + [[1] * (width - 1) + [None]] + tells[state + 1:]
                self.raises(BadNumber, {}, Machine, width, wrong, moves)
        for wrong in NOT_NUMBERS:
            self.raises(BadNumber, {}, Machine, 2, [HALVES, [wrong, 1]], [[0, 0]] * 2)

    def test_moves(self):
        for width, states in sizes():
            tells, moves = some_tells(width, states), some_moves(width, states)
            for many in (0, states - 1, states + 1):
                if many != states:
                    wrong = [[9] * 9] * many
                    self.raises(BadSize, {"found": many, "due": states}, Machine, width, tells, wrong)
            for state in range(states):
                for many in (0, width - 1, width + 1):
                    wrong = moves[:state] + [[HUGE] * many] + moves[state + 1:]
                    self.raises(BadSize, {"found": many, "due": width}, Machine, width, tells, wrong)
                for found in wrong_counts(0, states - 1):
                    told = {"found": found, "low": 0, "high": states - 1}
                    for place in range(width):
                        nexts = moves[state][:place] + [found] + moves[state][place + 1:]
                        wrong = moves[:state] + [nexts] + moves[state + 1:]
                        self.raises(BadCount, told, Machine, width, tells, wrong)
                        self.raises(BadCount, told, Machine, width, tells, wrong, start=HUGE)

    def test_starts(self):
        for width, states in sizes():
            tells, moves = some_tells(width, states), some_moves(width, states)
            for found in wrong_counts(0, states - 1):
                told = {"found": found, "low": 0, "high": states - 1}
                self.raises(BadCount, told, Machine, width, tells, moves, start=found)

    def test_which_of_several_decides(self):
        good, bad = HALVES, [1, 1]
        self.raises(BadCount, {"found": 0}, Machine, 0, [bad], [[9]], start=9)
        self.raises(BadShare, {"at": 0}, Machine, 2, [bad, bad], [[9]], start=9)
        self.raises(BadShare, {"at": 0}, Machine, 2, [bad, [None, 0]], [[9]], start=9)
        self.raises(BadNumber, {}, Machine, 2, [[None, 0], bad], [[9]], start=9)
        self.raises(BadSize, {"found": 3, "due": 2}, Machine, 2, [good, [None] * 3], [[9]], start=9)
        self.raises(BadSize, {"found": 1, "due": 2}, Machine, 2, [good, good], [[9]], start=9)
        self.raises(BadSize, {"found": 1, "due": 2}, Machine, 2, [good, good], [[9], [8, 8]], start=9)
        self.raises(BadCount, {"found": 8}, Machine, 2, [good, good], [[8, 9], [7]], start=9)
        self.raises(BadSize, {"found": 1, "due": 2}, Machine, 2, [good, good], [[0, 1], [7]], start=9)
        self.raises(BadCount, {"found": 9}, Machine, 2, [good, good], [[0, 1], [1, 1]], start=9)


class Runs(Case):
    def test_states_and_misses_on_texts(self):
        for width, states in sizes():
            for seed in (1, 2):
                machine = some_machine(width, states, seed)
                for text in all_texts(width, min(4, MOST_ROUNDS[width])) + ["0" * MOST_ROUNDS[width]]:
                    found = states_on(machine, text)
                    self.same(run_states(machine, text), found)
                    misses = sum(
                        (1 - value_of(machine.tells[state][int(y)]) for state, y in zip(found, text)), Fraction(0),
                    )
                    self.same(machine_misses(machine, text), pair(misses))

    def test_a_start_other_than_0(self):
        machine = Machine(2, [[1, 0], [0, 1]], [[1, 0], [1, 1]], start=1)
        self.same(run_states(machine, ""), [1])
        self.same(run_states(machine, "01"), [1, 1, 1])
        self.same(machine_misses(machine, "011"), (1, 1))
        self.same(machine_misses(machine, ""), (0, 1))
        self.same(machine_plan(machine, 1).shares, [((0, 1), (1, 1))])

    def test_plans(self):
        for width, rounds in SHAPES:
            for states in (1, 2, 6):
                machine = some_machine(width, states)
                plan = machine_plan(machine, rounds)
                self.assertIs(type(plan), Plan)
                self.same((plan.width, plan.rounds), (width, rounds))
                self.same(plan.shares, [machine.tells[states_on(machine, b)[-1]] for b in inner_texts(width, rounds)])
                for row in texts(width, rounds)[:9]:
                    self.same(machine_misses(machine, row), row_misses(plan, row))
                    self.same(row_misses(plan, row), pair(misses_on(plan, row)))
        self.same(len(machine_plan(some_machine(3, 2), 0)), 0)

    def test_wrong_rounds_and_texts(self):
        for width, states in sizes():
            machine = some_machine(width, states)
            for wrong in wrong_counts(0, MOST_ROUNDS[width]):
                self.raises(BadCount, {"found": wrong, "low": 0, "high": MOST_ROUNDS[width]}, machine_plan, machine, wrong)
            for text in [*wrong_texts(width), "0" * (MOST_ROUNDS[width] + 1), "0" * 100]:
                self.raises(BadRow, {"found": text}, run_states, machine, text)
                self.raises(BadRow, {"found": text}, machine_misses, machine, text)


class Builders(Case):
    def test_constant_machines(self):
        for width in range(1, 6):
            shares = some_tells(width, 2)[1]
            expected = Machine(width, [shares], [[0] * width])
            self.same(constant_machine(width, shares) == expected, True)
            rounds = MOST_ROUNDS[width]
            self.same(machine_plan(constant_machine(width, [(1, width)] * width), rounds) == even_plan(width, rounds), True)
        self.same(constant_machine(2, (0, 1)).tells, [((0, 1), (1, 1))])

    def test_last_machines(self):
        for width in range(1, 6):
            shares = some_tells(width, 2)[0]
            machine = last_machine(width, shares)
            self.same((machine.width, machine.states, machine.start), (width, width + 1, 0))
            self.same(machine.tells[0], share_pairs([shares])[0])
            self.same(machine.tells[1:], [tuple((int(y == at), 1) for at in range(width)) for y in range(width)])
            self.same(machine.moves, [tuple(range(1, width + 1))] * (width + 1))
        self.same(machine_misses(last_machine(2, HALVES), "0011"), (3, 2))
        self.same(last_machine(2, (0, 1)).tells[0], ((0, 1), (1, 1)))

    def test_wrong_sharings(self):
        for call in (constant_machine, last_machine):
            for width in range(1, 6):
                for many in (0, width - 1, width + 1, 600):
                    self.raises(BadSize, {"found": many, "due": width}, call, width, [None] * many)
                self.raises(BadShare, {"at": 0}, call, width, [0] * width)
                self.raises(BadShare, {"at": 0}, call, width, [2] + [0] * (width - 1))
            for wrong in NOT_NUMBERS:
                self.raises(BadNumber, {}, call, 2, [wrong, 0])
                self.raises(BadNumber, {}, call, 2, (5, wrong))


class Texts(Case):
    def test_the_example_of_the_document(self):
        text = "machine 2 3 0\n0 1/2 1/2 -> 1 2\n1 1 0 -> 1 2\n2 0 1 -> 1 2"
        self.same(machine_text(last_machine(2, HALVES)), text)

    def test_texts_are_read_back_to_equal_machines(self):
        for width, states in sizes():
            for seed in range(4):
                machine = some_machine(width, states, seed)
                lines = [f"machine {width} {states} {machine.start}"]
                for state in range(states):
                    shares = [str(value_of(share)) for share in machine.tells[state]]
                    lines.append(" ".join([str(state), *shares, "->", *map(str, machine.moves[state])]))
                self.same(machine_text(machine), "\n".join(lines))
                again = read_machine("\n".join(lines))
                self.assertIs(type(again), Machine)
                self.same(again == machine, True)
                self.same((again.tells, again.moves, again.start), (machine.tells, machine.moves, machine.start))

    def test_parts_of_4000_digits(self):
        long = 10 ** 3999
        machine = Machine(2, [[(1, long), (long - 1, long)]], [[0, 0]])
        self.same(read_machine(machine_text(machine)) == machine, True)
        longer = long * 10
        self.wrong(["machine 2 1 0", f"0 1/{longer} {longer - 1}/{longer} -> 0 0"], 2)

    def wrong(self, lines, line):
        with self.subTest(lines=[text[:40] for text in lines[:4]], many=len(lines)):
            self.raises(BadText, {"line": line}, read_machine, "\n".join(lines))

    def test_wrong_first_lines(self):
        rest = ["0 1/2 1/2 -> 0 0"]
        for first in (
            "", " ", "machine", "machine 2", "machine 2 1", "machine 2 1 ", " machine 2 1 0", "machine 2 1 0 ", "machine 2 1  0",
            "machine 2 1 0 0", "machine 0 1 0", "machine 6 1 0", "machine 2 0 0", "machine 2 7 0", "machine 2 1 1",
            "machine 2 6 6", "machine 2 9 0", "machine 9 1 0", "machine 02 1 0", "machine 2 01 0", "machine 2 1 00",
            "machine -2 1 0", "machine 2 1 -0", "machine 2 +1 0", "machine 2/1 1 0", "machine a 1 0", "machine 2 a 0",
            "machine 2 1 a", "machine 2 1 -", "MACHINE 2 1 0", "machines 2 1 0", "2 1 0 machine", "plan 2 1", "plan 2 1 0",
            "machine2 1 0", "machine 2 10 0", "machine 2 12 3", "machine " + "1" * 5000 + " 1 0", "machine 2 2 2",
        ):
            for more in (rest, [], ["x"]):
                self.wrong([first, *more], 1)
        for width in range(10):
            for states in range(10):
                for start in range(10):
                    line = 2 if 1 <= width <= 5 and 1 <= states <= 6 and start < states else 1
                    self.wrong([f"machine {width} {states} {start}"], line)

    def test_lines_left_out_doubled_and_too_many(self):
        for width, states in sizes():
            lines = machine_text(some_machine(width, states)).split("\n")
            for at in range(1, len(lines)):
                self.wrong(lines[:at], at + 1)
                self.wrong(lines[:at] + lines[at + 1:], at + 1)
                self.wrong(lines[:at + 1] + lines[at:], at + 2)
            self.wrong(lines[1:], 1)
            for more in ("", lines[-1], "x", f"{states} 1 -> 0"):
                self.wrong(lines + [more], len(lines) + 1)
                self.wrong(lines + [more] * 9, len(lines) + 1)

    def test_spoilt_lines(self):
        machine = Machine(2, [[(1, 2), (1, 2)], [1, 0], [0, 1]], [[0, 1], [1, 2], [2, 0]], start=2)
        lines = machine_text(machine).split("\n")
        self.same(read_machine("\n".join(lines)) == machine, True)
        for at in range(1, 4):
            state, shares, nexts = lines[at][0], lines[at][2:].split(" -> ")[0], lines[at][-3:]
            self.same(lines[at], f"{state} {shares} -> {nexts}")
            spoilt = [
                "", " ", " " + lines[at], lines[at] + " ", lines[at] + " 0", lines[at][:-1], lines[at][:-2], lines[at][1:],
                lines[at].replace("->", ">"), lines[at].replace("->", "-"), lines[at].replace(" ->", ""),
                lines[at].replace("->", "-> ->"), lines[at].replace("-> ", "->"), lines[at].replace(" ->", "->"),
                lines[at].replace(" -> ", "  -> "), f"{int(state) + 1} {shares} -> {nexts}", f"0{state} {shares} -> {nexts}",
                f"-{state} {shares} -> {nexts}", f"{shares} -> {nexts}", f"{state} -> {nexts}", f"{state} {shares} ->",
                f"{state} {shares} -> 0", f"{state} {shares} -> 0 3", f"{state} {shares} -> 3 0", f"{state} {shares} -> 0 9",
                f"{state} {shares} -> 00 1", f"{state} {shares} -> 0 01", f"{state} {shares} -> 0 -1",
                f"{state} {shares} -> 0 +1", f"{state} {shares} -> 0 1/1", f"{state} {shares} -> 0 x",
                f"{state} {shares} -> 0 10", f"{state} {shares} -> 1 1 1", f"{state} {nexts} -> {shares} 0 0",
                f"{state} 1 1 -> {nexts}", f"{state} 0 0 -> {nexts}", f"{state} 2 -1 -> {nexts}", f"{state} 1 -> {nexts}",
                f"{state} 1/2 1/3 -> {nexts}", f"{state} 2/4 1/2 -> {nexts}", f"{state} 1 -0 -> {nexts}",
                f"{state} 1 x -> {nexts}", f"{state} 1 0 0 -> {nexts}", f"{state} +1 0 -> {nexts}", f"{state} 1/1 0 -> {nexts}",
                f"x {shares} -> {nexts}", f"- {shares} -> {nexts}", f"{state} {nexts} -> {shares}" if at == 1 else "x",
            ]
            for other in spoilt:
                self.wrong(lines[:at] + [other] + lines[at + 1:], at + 1)
                self.wrong(lines[:at] + [other] + ["x"], at + 1)

    def test_next_states_below_the_states_alone(self):
        for states in range(1, 7):
            rest = [f"{state} 1 -> 0" for state in range(1, states)]
            for following in range(10):
                text = "\n".join([f"machine 1 {states} 0", f"0 1 -> {following}", *rest])
                if following < states:
                    self.same(read_machine(text).moves[0], (following,))
                else:
                    self.raises(BadText, {"line": 2}, read_machine, text)

    def test_texts_that_are_no_machines(self):
        for text in ("", "\n", "plan 2 0", "table 2 0\n- 1", "x" * 50000, "\n" * 599, "machine"):
            self.raises(BadText, {"line": 1}, read_machine, text)


if __name__ == "__main__":
    unittest.main()
