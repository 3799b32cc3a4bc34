"""Points 9, 11 and 22, and the section notbehind/forms.py."""

import unittest
from fractions import Fraction

from notbehind.errors import BadText
from notbehind.forms import plan_text, read_plan, read_table, table_text
from notbehind.plans import Plan, even_plan
from notbehind.tables import Table
from samples import some_plan, some_table
from support import EDGE_SHAPES, MOST_ROUNDS, SHAPES, Case, inner_texts, texts, value_of


class Texts(Case):
    def test_the_example_of_the_document(self):
        self.same(plan_text(even_plan(2, 2)), "plan 2 2\n- 1/2 1/2\n0 1/2 1/2\n1 1/2 1/2")

    def test_texts_of_every_shape(self):
        for width, rounds in SHAPES:
            table, plan = some_table(width, rounds), some_plan(width, rounds)
            lines = [f"table {width} {rounds}"]
            lines += [f"{row or '-'} {Fraction(*cell)}" for row, cell in zip(texts(width, rounds), table.cells)]
            self.same(table_text(table), "\n".join(lines))
            lines = [f"plan {width} {rounds}"]
            for beginning, sharing in zip(inner_texts(width, rounds), plan.shares):
                lines.append(" ".join([beginning or "-", *[str(Fraction(*share)) for share in sharing]]))
            self.same(plan_text(plan), "\n".join(lines))

    def test_texts_of_few_rounds(self):
        self.same(table_text(Table(2, 0, [(-6, 4)])), "table 2 0\n- -3/2")
        self.same(table_text(Table(1, 2, [0])), "table 1 2\n00 0")
        self.same(table_text(Table(3, 1, [1, (4, 2), (1, 3)])), "table 3 1\n0 1\n1 2\n2 1/3")
        self.same(plan_text(even_plan(4, 0)), "plan 4 0")
        self.same(plan_text(even_plan(1, 2)), "plan 1 2\n- 1\n0 1")

    def test_texts_are_read_back_to_equal_objects(self):
        for width, rounds in SHAPES:
            for seed in (1, 2):
                table, plan = some_table(width, rounds, seed), some_plan(width, rounds, seed)
                again = read_table(table_text(table))
                self.assertIs(type(again), Table)
                self.same(again == table, True)
                self.same((again.width, again.rounds), (width, rounds))
                self.same(again.cells, table.cells)
                again = read_plan(plan_text(plan))
                self.assertIs(type(again), Plan)
                self.same(again == plan, True)
                self.same((again.width, again.rounds), (width, rounds))
                self.same(again.shares, plan.shares)

    def test_parts_of_4000_digits(self):
        long = 10 ** 3999
        table = Table(2, 1, [(-long, long + 1), long])
        self.same(read_table(table_text(table)).cells, table.cells)
        plan = Plan(2, 1, [[(1, long), (long - 1, long)]])
        self.same(read_plan(plan_text(plan)).shares, plan.shares)


class WrongFirstLines(Case):
    def check(self, word, reader, rest):
        firsts = [
            "", " ", word, f"{word} 2", f"{word} 2 1 ", f" {word} 2 1", f"{word}  2 1", f"{word} 2  1", f"{word} 2 1 1",
            f"{word} 2 1 -", word.upper() + " 2 1", f"{word}s 2 1", f"{word[:-1]} 2 1", f"{word} 0 1", f"{word} 6 1",
            f"{word} 9 0", f"{word} 02 1", f"{word} 2 01", f"{word} 2 1.", f"{word} 2 9", f"{word} -2 1", f"{word} 2 -1",
            f"{word} +2 1", f"{word} 2 +1", f"{word} 2/1 1", f"{word} a 1", f"{word} 2 a", f"{word} 2 10", f"{word} 12 1",
            f"{word} 1 9", f"{word} 3 6", f"{word} 4 5", f"{word} 5 4", f"{word} 3 8", f"{word} 2\t1", f"2 1 {word}",
            f"{word}2 1", "- 1", "machine 2 1 0", "journal 2 1", f"{word} {'9' * 5000} 1", f"{word} 2 {'9' * 5000}",
            f"{word} - 1", f"{word} 2 -", f"{word} : 1", f"{word} 2 /", f"x {word} 2 1",
            "plan 2 1" if word == "table" else "table 2 1",
        ]
        for first in firsts:
            for text in (first, first + "\n" + rest, first + "\n"):
                with self.subTest(first=first[:20]):
                    self.raises(BadText, {"line": 1}, reader, text)

    def test_tables(self):
        self.check("table", read_table, "0 1\n1 1")

    def test_plans(self):
        self.check("plan", read_plan, "- 1/2 1/2")

    def test_each_width_and_its_most_rounds(self):
        for width in range(10):
            for rounds in range(10):
                line = 2 if width in MOST_ROUNDS and rounds <= MOST_ROUNDS[width] else 1
                self.raises(BadText, {"line": line}, read_table, f"table {width} {rounds}")
                if line == 2 and rounds == 0:
                    self.same(len(read_plan(f"plan {width} 0")), 0)
                else:
                    self.raises(BadText, {"line": line}, read_plan, f"plan {width} {rounds}")


class SpoiltTexts(Case):
    def samples(self):
        """A text of each sort and edge shape, with one digit a number, and its reader."""
        for width, rounds in EDGE_SHAPES + [(2, 2), (3, 2)]:
            cells = [at % 7 for at in range(width ** rounds)]
            yield read_table, table_text(Table(width, rounds, cells)).split("\n")
            shares = [[1] + [0] * (width - 1) for _ in inner_texts(width, rounds)]
            yield read_plan, plan_text(Plan(width, rounds, shares)).split("\n")

    def wrong(self, reader, lines, line):
        with self.subTest(reader=reader, lines=lines[:3], many=len(lines), line=line):
            self.raises(BadText, {"line": line}, reader, "\n".join(lines))

    def places(self, lines):
        """The indexes of a few lines behind the first one, the last one among them."""
        return sorted({at for at in (1, 2, 3, len(lines) // 2, len(lines) - 2, len(lines) - 1) if 0 < at < len(lines)})

    def test_lines_left_out_and_texts_cut_short(self):
        for reader, lines in self.samples():
            if len(lines) > 1:
                self.wrong(reader, lines[1:], 1)
            for at in self.places(lines):
                self.wrong(reader, lines[:at] + lines[at + 1:], at + 1)
                self.wrong(reader, lines[:at], at + 1)

    def test_lines_doubled_and_too_many(self):
        for reader, lines in self.samples():
            for at in [0, *self.places(lines)]:
                self.wrong(reader, lines[:at + 1] + lines[at:], at + 2)
            for more in ("", " ", "- 1", "0", lines[-1], lines[0]):
                self.wrong(reader, lines + [more], len(lines) + 1)
                self.wrong(reader, lines + [more] * 50, len(lines) + 1)

    def test_lines_moved(self):
        for reader, lines in self.samples():
            places = [0, *self.places(lines)]
            for first, second in zip(places, places[1:]):
                moved = list(lines)
                moved[first], moved[second] = lines[second], lines[first]
                self.wrong(reader, moved, first + 1)
                put = lines[:first] + lines[first + 1:second + 1] + [lines[first]] + lines[second + 1:]
                self.wrong(reader, put, first + 1)

    def test_lines_spoilt(self):
        for reader, lines in self.samples():
            for at in self.places(lines):
                line = lines[at]
                start, _, rest = line.partition(" ")
                spoilt = [
                    "", " ", " " + line, line + " ", line.replace(" ", "  ", 1), line + " 0", line + " x", "0 " + line,
                    line[:-1], line[:-2], start, rest, start + rest, line[1:], line + "/", line + "/1", line + ".",
                    line + "/0", start + "0 " + rest, start + "x " + rest, "- " + line, "x " + rest, line + "-",
                    start + " -" + rest[1:], start + " +" + rest, start + " 0" + rest, start + " 2/4" + rest[1:],
                    start + " 3/1" + rest[1:], start + " -0" + rest[1:], start + "\t" + rest, line + " ->",
                    start + " " + "1" * 4001 + rest[1:], start + " 1/" + "1" * 4001 + rest[1:],
                    start + " " + "1" * 40000 + rest[1:],
                ]
                for other in spoilt:
                    self.wrong(reader, lines[:at] + [other] + lines[at + 1:], at + 1)
                    self.wrong(reader, lines[:at] + [other] + lines[at + 1:] + ["x"], at + 1)

    def test_beginnings_that_are_not_due(self):
        self.wrong(read_table, ["table 2 0", "0 1"], 2)
        self.wrong(read_table, ["table 2 0", " 1"], 2)
        self.wrong(read_table, ["table 2 1", "- 1", "1 1"], 2)
        self.wrong(read_table, ["table 2 1", "0 1", "0 1"], 3)
        self.wrong(read_table, ["table 2 1", "1 1", "0 1"], 2)
        self.wrong(read_table, ["table 2 1", "0 1", "2 1"], 3)
        self.wrong(read_table, ["table 1 2", "0 1"], 2)
        self.wrong(read_plan, ["plan 2 2", "- 1 0", "1 1 0", "0 1 0"], 3)
        self.wrong(read_plan, ["plan 2 1", "0 1 0"], 2)
        self.wrong(read_plan, ["plan 2 1", " 1 0"], 2)
        self.wrong(read_plan, ["plan 2 0", "- 1 0"], 2)
        self.wrong(read_plan, ["plan 2 0", ""], 2)

    def test_numbers_that_are_no_sharing(self):
        for width, rounds in EDGE_SHAPES:
            lines = plan_text(even_plan(width, rounds)).split("\n")
            for at in self.places(lines):
                start = lines[at].split(" ")[0]
                for numbers in (["2"] + ["-1"] + ["0"] * (width - 2), ["0"] * width, ["1"] * (width + 1), ["1"] * 2):
                    if numbers == ["1"] * width:
                        continue
                    self.wrong(read_plan, lines[:at] + [" ".join([start, *numbers])] + lines[at + 1:], at + 1)
        tiny = 10 ** 30
        self.wrong(read_plan, ["plan 2 1", f"- 1/2 {tiny // 2 + 1}/{tiny}"], 2)
        self.wrong(read_plan, ["plan 2 1", f"- -1/{tiny} {tiny + 1}/{tiny}"], 2)
        self.same(read_plan(f"plan 2 1\n- 1/{tiny} {tiny - 1}/{tiny}").shares, [((1, tiny), (tiny - 1, tiny))])

    def test_the_first_of_several_wrong_lines(self):
        lines = ["plan 2 2", "- 1 0", "0 1 0", "1 1 0"]
        self.wrong(read_plan, ["plan 2 2", "- 1 1", "x", "1 1 0"], 2)
        self.wrong(read_plan, ["plan 2 2", "- 1 0", "0 1 1", "1 1 2 3"], 3)
        self.wrong(read_plan, ["plan 2 2", "- 1 0", "0 1 0", "1 1", "x"], 4)
        self.wrong(read_plan, lines + ["", ""], 5)
        self.wrong(read_plan, ["plan 2 3"] + lines[1:], 5)
        self.wrong(read_table, ["table 2 1", "0 2/4", "2 1"], 2)

    def test_texts_of_the_other_sort(self):
        for width, rounds in EDGE_SHAPES:
            self.raises(BadText, {"line": 1}, read_table, plan_text(some_plan(width, rounds)))
            self.raises(BadText, {"line": 1}, read_plan, table_text(some_table(width, rounds)))

    def test_the_empty_text_and_long_texts(self):
        for reader in (read_table, read_plan):
            for text in ("", "\n", "\n\n", "x" * 50000, "\n" * 599, " "):
                self.raises(BadText, {"line": 1}, reader, text)
        self.wrong(read_table, ["table 2 1", "0 1", "1 1"] + ["x"] * 597, 4)


class Values(Case):
    def test_numbers_are_read_as_fractions(self):
        table = read_table("table 2 1\n0 -7/2\n1 40")
        self.same(table.cells, [(-7, 2), (40, 1)])
        self.assertEqual(value_of(table("0")), Fraction(-7, 2))


if __name__ == "__main__":
    unittest.main()
