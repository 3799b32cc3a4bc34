"""Points 71 and 72, and the section notbehind/audit.py."""

import unittest

from notbehind.audit import audit, audit_script, differences, settled, wrong_papers
from notbehind.book import Book, replayed
from notbehind.errors import BadName, UnknownName, WrongKind
from support import Case

BASE = "\n".join(["table t 2 1 0 1", "keeper k t", "breaker r t", "even e 2 1", "even w 3 2", "table u 2 1 0 1", "table v 2 1 1 1"])


def book_of(*lines):
    return replayed("\n".join([BASE, *lines]))


class Papers(Case):
    def test_right_and_wrong_papers(self):
        book = book_of("paper a t 0 k r", "paper b t 1 k r", "paper c t 0 e r", "paper d t 0 k r", "paper f t -1/2 k e")
        self.same(wrong_papers(book), ["b", "c", "f"])
        self.same(audit(book), "b")
        self.new_list(lambda: wrong_papers(book))

    def test_plans_of_another_shape(self):
        book = book_of("paper a t 0 w r", "paper b t 0 k w", "paper c t 0 w w")
        self.same((wrong_papers(book), audit(book)), (["a", "b", "c"], "a"))

    def test_books_without_wrong_papers(self):
        for book in (Book(), book_of(), book_of("paper a t 0 k r"), book_of("paper a t 0 k r", "paper b v 1/2 e e")):
            self.same((wrong_papers(book), audit(book)), ([], None))

    def test_the_order_of_names(self):
        book = book_of("paper z t 1 k r", "paper a t 1 k r")
        self.same((wrong_papers(book), audit(book)), (["z", "a"], "z"))
        book.run("drop z\npaper z t 2 k r")
        self.same((wrong_papers(book), audit(book)), (["a", "z"], "a"))
        book.undo()
        book.undo()
        self.same(wrong_papers(book), ["z", "a"])

    def test_the_table_of_the_paper_counts(self):
        book = book_of("paper a t 0 k r", "paper b v 0 k r", "paper c u 0 k r")
        self.same(wrong_papers(book), ["b"])


class Settled(Case):
    def test_the_first_value_paper_of_the_table(self):
        book = book_of("paper a t 1 k r", "paper b t 0 k r", "paper c t 0 k r")
        self.same(settled(book, "t"), (0, 1))
        book = book_of("paper a v 1/2 e e")
        self.same(settled(book, "v"), (1, 2))

    def test_no_paper_and_wrong_ones(self):
        book = book_of("paper a t 1 k r", "paper b t 0 w r")
        for name in ("t", "u", "v"):
            self.same(settled(book, name), None)
        self.same(settled(book_of(), "t"), None)

    def test_an_equal_table_of_another_name_does_not_count(self):
        book = book_of("paper a u 0 k r")
        self.same((settled(book, "u"), settled(book, "t")), ((0, 1), None))
        book.do("paper b t 0 k r")
        self.same(settled(book, "t"), (0, 1))

    def test_papers_of_a_dropped_name(self):
        book = book_of("paper a u 0 k r", "drop a", "drop u", "table u 2 1 5 5")
        self.same(settled(book, "u"), None)
        book.run("keeper x u\nbreaker y u\npaper a u 9/2 x y")
        self.same(settled(book, "u"), (9, 2))
        book.undo()
        self.same(settled(book, "u"), None)

    def test_errors_in_their_order(self):
        book = book_of("paper a t 0 k r", "game g k t -")
        for name in ("", "A", "-", "a b", "a" * 13):
            self.raises(BadName, {"found": name}, settled, book, name)
        for name in ("no", "tt", "table"):
            self.raises(UnknownName, {"name": name}, settled, book, name)
        for name in ("a", "g", "k", "w"):
            self.raises(WrongKind, {"name": name}, settled, book, name)


class Scripts(Case):
    LINES = ["sure a 2 00", "sure b 2 11", "best u a b", "keeper c u", "paper p u -1/2 c a", "game g c u 01", "drop p"]
    ANSWERS = ["least 0", "least 0", "fold -1/2", "least 1/2", "wrong", "misses 3/2 room -1/2", "dropped"]

    def setUp(self):
        self.text = "\n".join(self.LINES)
        self.answers = Book().run(self.text)

    def test_right_answers(self):
        self.same(self.answers, self.ANSWERS)
        self.same(audit_script(self.text, self.answers), None)
        self.same(audit_script(self.text, tuple(self.answers)), None)

    def test_spoilt_answers(self):
        for at in range(len(self.LINES)):
            for wrong in ("", "least", self.answers[at] + " ", self.answers[at].upper(), "dropped ", "x"):
                answers = list(self.answers)
                answers[at] = wrong
                self.same(audit_script(self.text, answers), at + 1)
                self.same(audit_script(self.text, answers[:at + 1]), at + 1)
                self.same(audit_script(self.text, answers + ["more"]), at + 1)

    def test_too_few_and_too_many(self):
        for many in range(len(self.LINES)):
            self.same(audit_script(self.text, self.answers[:many]), many + 1)
        for more in (["dropped"], [""], ["x"] * 500):
            self.same(audit_script(self.text, self.answers + more), 8)

    def test_lines_that_raise_errors(self):
        for at in range(len(self.LINES)):
            for wrong in ("", "even", "even a2 9 9", "drop no", "keeper x no", " "):
                lines = self.LINES[:at] + [wrong] + self.LINES[at:]
                answers = self.answers[:at] + ["x"] + self.answers[at:]
                self.same(audit_script("\n".join(lines), answers), at + 1)
                self.same(audit_script("\n".join(lines), self.answers[:at]), at + 1)

    def test_the_empty_text_has_no_lines(self):
        self.same(audit_script("", []), None)
        self.same(audit_script("", ()), None)
        self.same(audit_script("", ["x"]), 1)
        self.same(audit_script("", ["", ""]), 1)

    def test_newlines_at_the_end(self):
        self.same(audit_script(self.text + "\n", self.answers), 8)
        self.same(audit_script(self.text + "\n", self.answers + [""]), 8)
        self.same(audit_script("\n", []), 1)
        self.same(audit_script("\n", ["", ""]), 1)

    def test_the_list_stays_as_it_was(self):
        kept = list(self.answers)
        audit_script(self.text, self.answers)
        self.same(self.answers, kept)


class Differences(Case):
    def test_equal_books(self):
        lines = ["paper a t 0 k r", "game g k t 0"]
        self.same(differences(book_of(*lines), book_of(*lines)), [])
        self.same(differences(Book(), Book()), [])
        book = book_of(*lines)
        self.same(differences(book, book), [])
        self.same(differences(book, book.twin()), [])
        self.new_list(lambda: differences(book, Book()))

    def test_names_in_only_one(self):
        self.same(differences(book_of(), Book()), ["e", "k", "r", "t", "u", "v", "w"])
        self.same(differences(Book(), book_of()), ["e", "k", "r", "t", "u", "v", "w"])
        first, second = book_of("even z 2 1", "even b 2 1"), book_of("even a 2 1", "even b 2 1", "even a1 2 1")
        self.same(differences(first, second), ["a", "a1", "z"])
        self.same(differences(second, first), ["a", "a1", "z"])

    def test_the_order_and_the_scripts_do_not_matter(self):
        first = replayed("even a 2 1\ntable b 2 1 0 0\nsure c 2 0")
        second = replayed("sure z 2 1\nplan c 2 1 1 0\ntable x 2 1 1 1\nraise b x -1\nblend a c z 1/2\ndrop a\ndrop z\nlast a 2 1")
        self.same(differences(first, second), ["x"])
        self.same(differences(second, first), ["x"])

    def test_other_things_under_the_same_names(self):
        for line, other in (
            ("table n 2 1 0 1", "table n 2 1 0 2"), ("table n 2 1 0 0", "table n 2 0 0"), ("table n 2 0 0", "table n 3 0 0"),
            ("even n 2 1", "sure n 2 0"), ("even n 2 0", "even n 3 0"), ("even n 1 1", "even n 1 2"),
            ("paper n t 0 k r", "paper n t 1 k r"), ("paper n t 0 k r", "paper n t 0 e r"),
            ("paper n t 0 k r", "paper n t 0 k k"), ("paper n t 0 k r", "paper n v 0 k r"),
            ("game n k t -", "game n e t -"), ("game n k t -", "game n k v -"), ("game n k t -", "game n k t 0"),
            ("game n k t 0", "game n k t 1"),
            ("table n 2 0 0", "even n 2 0"), ("table n 2 1 0 1", "paper n t 0 k r"), ("even n 2 1", "game n k t -"),
            ("paper n t 0 k r", "game n k t -"), ("paper n t 0 k r", "even n 2 1"), ("game n k t -", "table n 2 1 0 1"),
        ):
            with self.subTest(line=line, other=other):
                self.same(differences(book_of(line), book_of(other)), ["n"])
                self.same(differences(book_of(other), book_of(line)), ["n"])

    def test_same_things_made_in_other_ways(self):
        for line, other in (
            ("table n 2 1 1/2 1/2", "misses n e"), ("even n 2 1", "blend n e e 1/3"), ("paper n t 0 k r", "paper n u 0 k r"),
            ("game n e t 1", "game n e u 1"), ("keeper n t", "keeper n u"), ("table n 2 1 0 1", "change n v 0 0"),
        ):
            with self.subTest(line=line, other=other):
                self.same(differences(book_of(line), book_of(other)), [])


if __name__ == "__main__":
    unittest.main()
