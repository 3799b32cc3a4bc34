"""Points 9 to 11, and the section notbehind/words.py."""

import unittest
from fractions import Fraction

from notbehind.errors import BadName, BadNumber, BadText
from notbehind.words import check_name, is_name, join_words, number_text, read_number, split_line
from support import NOT_NUMBERS, Case

TEXTS = [
    ("0", (0, 1)), ("1", (1, 1)), ("-1", (-1, 1)), ("9", (9, 1)), ("10", (10, 1)), ("100", (100, 1)),
    ("-10", (-10, 1)), ("1/2", (1, 2)), ("-1/2", (-1, 2)), ("-3/4", (-3, 4)), ("10/3", (10, 3)), ("3/10", (3, 10)),
    ("-100/7", (-100, 7)), ("7/100", (7, 100)), ("1234567890/1234567891", (1234567890, 1234567891)),
]
NO_TEXTS = [
    "", "-", "--1", "-0", "+1", "+0", "00", "01", "-01", "007", "2/4", "3/1", "-3/1", "0/1", "0/2", "-0/2", "1/0",
    "0/0", "1/-2", "-1/-2", "1/+2", "1/02", "01/2", "-01/2", "1/", "/2", "/", "-/2", "1//2", "1/2/3", "1/2/", "/1/2",
    " ", " 1", "1 ", "1 /2", "1/ 2", "1/2 ", " 1/2", "- 1", "1 2", "1.0", "1.5", "1e3", "1_000", "1,000", "0x1",
    "a", "1a", "a1", "1/a", "1/2a", "1-", "1/2-", "1-2", "6/3", "10/5", "-4/2", "4/6", "one", "None", "(1, 2)",
    "~", ":", "1:", "1/:", "1/1", "-1/1",
]


class NumberTexts(Case):
    def test_texts_of_fractions(self):
        for text, number in TEXTS:
            with self.subTest(text=text):
                self.same(number_text(number), text)
                self.same(read_number(text), number)

    def test_numbers_that_are_no_fractions_have_the_text_of_the_equal_one(self):
        for number, text in [
            (0, "0"), (-5, "-5"), (12, "12"), ((0, 7), "0"), ((2, 4), "1/2"), ((-2, 4), "-1/2"), ((6, 3), "2"),
            ((-6, 3), "-2"), ((5, 1), "5"), ((100, 10), "10"),
        ]:
            with self.subTest(number=number):
                self.same(number_text(number), text)

    def test_texts_of_no_fraction(self):
        for text in NO_TEXTS:
            with self.subTest(text=text):
                self.raises(BadText, {"line": 1}, read_number, text)

    def test_every_short_text_reads_back_to_itself_or_is_refused(self):
        signs = ["", "-", "+", " "]
        parts = ["", "0", "1", "2", "3", "4", "01", "10", "12", "-1"]
        good = {str(Fraction(above, below)) for above in range(-40, 41) for below in range(1, 41)}
        for sign in signs:
            for above in parts:
                for rest in ["", "/", *["/" + below for below in parts[1:]]]:
                    text = sign + above + rest
                    with self.subTest(text=text):
                        if text in good:
                            self.same(number_text(read_number(text)), text)
                            self.assertEqual(Fraction(*read_number(text)), Fraction(text))
                        else:
                            self.raises(BadText, {"line": 1}, read_number, text)

    def test_parts_of_4000_digits(self):
        long = 10 ** 3999 + 1
        digits = "1" + "0" * 3998 + "1"
        self.same(read_number(digits), (long, 1))
        self.same(read_number("-" + digits), (-long, 1))
        self.same(read_number("1/" + digits), (1, long))
        self.same(read_number("-2/" + digits), (-2, long))
        nines = "9" * 4000
        power = "1" + "0" * 3999
        self.same(read_number("-" + power + "/" + nines), (-10 ** 3999, 10 ** 4000 - 1))
        self.same(number_text((-10 ** 3999, 10 ** 4000 - 1)), "-" + power + "/" + nines)
        self.same(number_text(long), digits)
        self.same(number_text(-long), "-" + digits)
        self.same(number_text((-1, long)), "-1/" + digits)

    def test_longer_parts_are_refused_before_they_are_converted(self):
        for many in (4001, 4300, 4301, 5000, 199990):
            digits = "1" * many
            for text in (digits, "-" + digits, "1/" + digits, "-1/" + digits, digits + "/2", digits + "/" + digits):
                with self.subTest(many=many, text=text[:3]):
                    self.raises(BadText, {"line": 1}, read_number, text)
        self.raises(BadText, {"line": 1}, read_number, "0" * 4001)
        self.raises(BadText, {"line": 1}, read_number, "1/" + "0" * 100000)

    def test_no_number_has_no_text(self):
        for wrong in NOT_NUMBERS:
            with self.subTest(wrong=wrong):
                self.raises(BadNumber, {}, number_text, wrong)


class Names(Case):
    def test_names(self):
        letters = [chr(code) for code in range(ord("a"), ord("z") + 1)]
        for name in [*letters, "ab", "z9", "a0", "keeper", "x0123456789", "abcdefghijkl", "a00000000000", "table"]:
            with self.subTest(name=name):
                self.same(is_name(name), True)
                self.same(check_name(name), name)

    def test_texts_that_are_none(self):
        for text in [
            "", "A", "Ab", "aB", "abC", "1", "0a", "9", "_", "_a", "a_", "a-b", "-", "a ", " a", "a b", " ", "a.b", "a/",
            "abcdefghijklm", "a000000000000", "`", "{", "a`", "a{", "a:", "a@", "/a", "z~", "a" * 200, "a" * 100000,
        ]:
            with self.subTest(text=text[:20]):
                self.same(is_name(text), False)
                self.raises(BadName, {"found": text}, check_name, text)

    def test_each_character_at_the_first_and_at_a_later_place(self):
        for code in range(32, 127):
            letter = chr(code)
            with self.subTest(letter=letter):
                self.same(is_name(letter), "a" <= letter <= "z")
                self.same(is_name("a" + letter), "a" <= letter <= "z" or "0" <= letter <= "9")
                self.same(is_name("a" + letter + "a"), "a" <= letter <= "z" or "0" <= letter <= "9")


class Lines(Case):
    def test_words_of_a_line(self):
        for line, words in [
            ("", []), ("a", ["a"]), ("a b", ["a", "b"]), ("- 1/2 1/2", ["-", "1/2", "1/2"]), ("0 -> 1", ["0", "->", "1"]),
            ("a a a", ["a", "a", "a"]), ("!~ {} %s", ["!~", "{}", "%s"]),
        ]:
            with self.subTest(line=line):
                self.same(split_line(line), words)
                self.same(join_words(words), line)
                self.same(join_words(tuple(words)), line)

    def test_a_space_too_many(self):
        for line in [" ", "  ", "   ", " a", "a ", " a ", "a  b", "a b ", " a b", "a b  c", "a  b c", "a   b", "  a", "a  "]:
            with self.subTest(line=line):
                self.raises(BadText, {"line": 1}, split_line, line)

    def test_a_space_too_many_at_each_place_of_a_long_line(self):
        words = ["word"] * 40
        for at in range(41):
            spoilt = " ".join(words[:at]) + (" " if 0 < at < 40 else "") + " " + " ".join(words[at:])
            with self.subTest(at=at):
                self.raises(BadText, {"line": 1}, split_line, spoilt)

    def test_words_that_are_none(self):
        for words in [
            [""], [" "], ["a", ""], ["", "a"], ["a", "", "b"], ["a b"], ["a", "b c"], [" a"], ["a "], ["a", " "],
            ["a"] * 300 + [""], ["a"] * 300 + ["b "],
        ]:
            with self.subTest(words=words[-2:]):
                self.raises(BadText, {"line": 1}, join_words, words)
                self.raises(BadText, {"line": 1}, join_words, tuple(words))

    def test_splitting_undoes_joining(self):
        words = [f"w{at}" for at in range(600)]
        self.same(split_line(join_words(words)), words)
        self.same(words, [f"w{at}" for at in range(600)])

    def test_the_list_is_new(self):
        self.new_list(lambda: split_line("a b"))
        self.new_list(lambda: split_line(""))


if __name__ == "__main__":
    unittest.main()
