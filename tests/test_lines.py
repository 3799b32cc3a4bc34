"""Points 67 and 68 as far as a line alone tells, and the section notbehind/lines.py."""

import unittest

from notbehind.errors import BadText
from notbehind.lines import commands, parse_line, used_names
from support import Case

COMMANDS = [
    "table", "plan", "even", "sure", "last", "misses", "best", "raise", "change", "join", "keeper", "breaker", "blend",
    "follow", "paper", "game", "drop",
]
# The number of words of each command; for those that take any number more, the least number.
FIXED = {
    "even": 4, "sure": 4, "last": 4, "misses": 3, "raise": 4, "change": 5, "join": 4, "keeper": 3, "breaker": 3,
    "blend": 5, "follow": 4, "paper": 6, "game": 5, "drop": 2,
}
OPEN = {"table": 4, "plan": 4, "best": 2}
# By command, the places of the words that stand for TABLE or PLAN.
USED = {
    "misses": [2], "raise": [2], "change": [2], "join": [2, 3], "keeper": [2], "breaker": [2], "blend": [2, 3],
    "follow": [2, 3], "paper": [2, 4, 5], "game": [2, 3],
}
WORDS = ["x", "b", "c", "d", "e", "f", "g", "h", "i"]


class Lines(Case):
    def test_commands(self):
        self.same(commands(), COMMANDS)
        self.new_list(commands)
        self.assertEqual(sorted([*FIXED, *OPEN]), sorted(COMMANDS))

    def test_numbers_of_words(self):
        for command in COMMANDS:
            for many in range(1, 10):
                words = [command, *WORDS[:many - 1]]
                line = " ".join(words)
                right = many == FIXED[command] if command in FIXED else many >= OPEN[command]
                with self.subTest(line=line):
                    if right:
                        self.same(parse_line(line), words)
                    else:
                        self.raises(BadText, {"line": 1}, parse_line, line)
                        self.raises(BadText, {"line": 1}, used_names, line)
        self.same(len(parse_line("table a 2 8" + " 1" * 300)), 304)

    def test_nothing_else_is_checked(self):
        for line in ("table A 9 x ?", "plan - -1 -1", "drop !!", "best -", "game 1 2 3 4", "paper ~ ~ ~ ~ ~", "even table plan drop"):
            self.same(parse_line(line), line.split(" "))
        self.new_list(lambda: parse_line("keeper a b"))

    def test_lines_that_are_none(self):
        for line in (
            "", " ", "  ", "a", "Table a 2 1 0 0", "tables a 2 1 0 0", "NAME a", "drop  a", " drop a", "drop a ", "drop a  ",
            "even a  2 1", "even a 2 1 ", " even a 2 1", "-", "drop", "# drop a", "drop\ta", "TABLE a 2 1", "..", "undo",
        ):
            self.raises(BadText, {"line": 1}, parse_line, line)
            self.raises(BadText, {"line": 1}, used_names, line)


class Used(Case):
    def test_words_that_stand_for_tables_and_plans(self):
        for command, many in FIXED.items():
            words = [command, *WORDS[:many - 1]]
            expected = [words[at] for at in USED.get(command, [])]
            self.same(used_names(" ".join(words)), expected)
        self.same(used_names("table a 2 1 b c"), [])
        self.same(used_names("plan a 2 1 b c"), [])
        self.same(used_names("best a"), [])
        self.same(used_names("best a b"), ["b"])
        self.same(used_names("drop a"), [])
        self.new_list(lambda: used_names("join a b c"))

    def test_repeated_words_and_words_that_are_no_names(self):
        self.same(used_names("best a c b c c"), ["c", "b", "c", "c"])
        self.same(used_names("join a b b"), ["b", "b"])
        self.same(used_names("paper a b 1 a b"), ["b", "a", "b"])
        self.same(used_names("blend a A 1/2 -"), ["A", "1/2"])
        self.same(used_names("game table drop plan -"), ["drop", "plan"])


if __name__ == "__main__":
    unittest.main()
