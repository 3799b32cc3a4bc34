"""Points 67 to 71, and the section notbehind/book.py."""

import unittest

from notbehind.book import Book, Stopped, replayed
from notbehind.errors import (
    BadCount, BadName, BadNumber, BadRow, BadShare, BadSize, BadText, BadWeight, InUse, Mismatch, NoHelper, NotBehindError,
    NothingToTakeBack, TakenName, UnknownName, WrongKind,
)
from notbehind.filling import wide_breaker, wide_fold, wide_keeper, wide_value_paper
from notbehind.games import Game
from notbehind.helpers import best_table
from notbehind.horizons import joined
from notbehind.machines import last_machine, machine_plan
from notbehind.misses import least_misses, misses_table
from notbehind.plans import Plan, blended, even_plan, sure_plan
from notbehind.tables import Table, changed, flat, raised
from notbehind.words import number_text
from support import MOST_ROUNDS, Case, inner_texts

HALF = (1, 2)
START = "\n".join([
    "table t 2 1 0 1", "table u 2 2 0 1 1 0", "plan p 2 1 1/2 1/2", "plan q 2 1 1 0", "even e 2 2", "paper f t 0 q q",
    "game g p t 1", "even w 3 1",
])
NOT_NAMES = ["A", "1a", "-", "a-b", "a" * 13, "a_b", "!", "aB", "9"]
NOT_DIGITS = ["x", "12", "-1", "02", "1/2", "+1", "?", "0x1"]
NOT_TEXTS = ["x", "-0", "+1", "2/4", "1/0", "3/1", "1.5", "-", "01", "1" * 4001, "--1", "1/-2", "/"]


def started():
    book = Book()
    book.run(START)
    return book


def shown(thing):
    """A thing in values that can be compared."""
    if isinstance(thing, Table):
        return ("table", thing.width, thing.rounds, thing.cells)
    if isinstance(thing, Plan):
        return ("plan", thing.width, thing.rounds, thing.shares)
    if isinstance(thing, tuple):
        return ("paper", thing[0], shown(thing[1]), shown(thing[2]))
    return ("game", shown(thing.chooser), shown(thing.bounds), thing.beginning, thing.closed)


def state(book):
    things = [(name, book.sort_of(name), shown(book(name)), book.line_of(name)) for name in book.names()]
    return (book.names(), things, book.script(), book.script_text(), len(book), list(book))


class BookCase(Case):
    def refuses(self, error, told, book, line):
        """The line raises the error, in do and in run, and the book stays as it was."""
        before = state(book)
        self.raises(error, told, book.do, line)
        self.raises(Stopped, {"line": 1}, book.run, line)
        self.same(state(book), before)

    def makes(self, book, line, thing, answer):
        """The line gives the answer and makes the thing."""
        name = line.split(" ")[1]
        self.same(book.do(line), answer)
        self.same(shown(book(name)), shown(thing))
        self.same(book.sort_of(name), shown(thing)[0])
        self.same(book.line_of(name), line)
        self.same((book.names()[-1], book.script()[-1]), (name, line))


def fold_of(table):
    return f"fold {number_text(wide_fold(table))}"


def least_of(plan):
    return f"least {number_text(least_misses(plan))}"


class Example(Case):
    def test_the_example_of_the_document(self):
        book = Book()
        lines = "sure a 2 00\nsure b 2 11\nbest u a b\nkeeper c u"
        self.same(book.run(lines), ["least 0", "least 0", "fold -1/2", "least 1/2"])
        self.same(book.names(), ["a", "b", "u", "c"])


class Commands(BookCase):
    def made_tables(self, book, lines):
        for line, table in lines:
            self.makes(book, line, table, fold_of(table))

    def made_plans(self, book, lines):
        for line, plan in lines:
            self.makes(book, line, plan, least_of(plan))

    def test_tables(self):
        book = started()
        t, u = book("t"), book("u")
        self.made_tables(book, [
            ("table a 2 2 0 1/2 -3/4 5", Table(2, 2, [0, HALF, (-3, 4), 5])), ("table b 5 0 7", flat(5, 0, 7)),
            ("table c 3 1 1 2 3", Table(3, 1, [1, 2, 3])), ("table i 1 8 -1/3", flat(1, 8, (-1, 3))),
            ("misses j p", misses_table(even_plan(2, 1))), ("misses k e", misses_table(even_plan(2, 2))),
            ("best l p", misses_table(even_plan(2, 1))), ("best m p q q p p", best_table([even_plan(2, 1), sure_plan(2, "0")])),
            ("raise n t -1/2", raised(t, (-1, 2))), ("change o u 10 2/3", changed(u, "10", (2, 3))),
            ("change r b - 1", flat(5, 0, 1)), ("join s t u", joined(t, u)), ("join v b b", flat(5, 0, 14)),
            ("join x t t", joined(t, t)),
        ])

    def test_plans(self):
        book = started()
        p, q, t = book("p"), book("q"), book("t")
        self.made_plans(book, [
            ("plan a 2 2 1/2 1/2 1 0 1/3 2/3", Plan(2, 2, [[HALF, HALF], [1, 0], [(1, 3), (2, 3)]])),
            ("plan b 4 0", even_plan(4, 0)), ("plan c 3 1 0 0 1", sure_plan(3, "2")), ("plan d 1 2 1 1", even_plan(1, 2)),
            ("even i 5 3", even_plan(5, 3)), ("even j 2 0", even_plan(2, 0)), ("sure k 3 210", sure_plan(3, "210")),
            ("sure l 2 -", even_plan(2, 0)), ("sure m 1 00000000", even_plan(1, 8)),
            ("last n 2 3", machine_plan(last_machine(2, [HALF, HALF]), 3)), ("last o 5 0", even_plan(5, 0)),
            ("last r 3 2", Plan(3, 2, [[(1, 3)] * 3, [1, 0, 0], [0, 1, 0], [0, 0, 1]])),
            ("keeper s t", wide_keeper(t)), ("breaker v t", wide_breaker(t)), ("blend x p q 1/4", blended(p, q, weight=(1, 4))),
            ("blend y p q 0", p), ("blend z p q 1", q), ("follow aa p q", p + q), ("follow ab q q", q + q),
            ("follow ac l q", q),
        ])
        self.same(book.do("keeper ad u"), least_of(wide_keeper(book("u"))))

    def test_wide_tables_by_filling(self):
        book = Book()
        self.same(book.do("table a 3 1 0 1/2 3"), "fold -1/4")
        self.same(book.do("keeper b a"), "least 1/4")
        self.same(book.do("breaker c a"), "least 1/2")
        self.same(book("b").shares, [((3, 4), (1, 4), (0, 1))])
        self.same(book("c").shares, [(HALF, HALF, (0, 1))])

    def test_papers(self):
        book = started()
        number, chooser, foe = wide_value_paper(book("t"))
        self.same(number, (0, 1))
        book.run("keeper k t\nbreaker r t")
        self.makes(book, "paper a t 0 k r", (number, chooser, foe), "right")
        self.makes(book, "paper b t 1/2 k r", (HALF, chooser, foe), "wrong")
        self.makes(book, "paper c t -1 k r", ((-1, 1), chooser, foe), "wrong")
        self.makes(book, "paper d t 0 p p", ((0, 1), even_plan(2, 1), even_plan(2, 1)), "wrong")
        self.makes(book, "paper h u 0 e e", ((0, 1), even_plan(2, 2), even_plan(2, 2)), "wrong")
        self.makes(book, "paper i t 0 e r", ((0, 1), even_plan(2, 2), foe), "wrong")
        self.makes(book, "paper j t 0 k w", ((0, 1), chooser, even_plan(3, 1)), "wrong")
        self.same(type(book("a")), tuple)
        for name in "abcdij":
            self.same(book.paper_table(name) == book("t"), True)
        self.same(book.paper_table("h") == book("u"), True)
        for name in ("t", "p", "g"):
            self.raises(WrongKind, {"name": name}, book.paper_table, name)

    def test_games(self):
        book = started()
        for line, played, answer in (
            ("game a p t -", "", "misses 0 room 0"), ("game b p t 0", "0", "misses 1/2 room -1/2"),
            ("game c p t 1", "1", "misses 1/2 room 1/2"), ("game d e u 0", "0", "misses 1/2 room -1/2"),
            ("game h e u 01", "01", "misses 1 room 0"),
        ):
            names = line.split(" ")
            game = Game(book(names[2]), book(names[3]))
            game.play(played)
            self.makes(book, line, game, answer)
        book.run("even n 3 0\ntable o 3 0 5/2")
        self.same(book.do("game r n o -"), "misses 0 room 5/2")

    def test_things_told_are_apart_from_the_book(self):
        book = started()
        game = book("g")
        self.assertIs(type(game), Game)
        game.back()
        game.close()
        self.same((book("g").beginning, book("g").closed), ("1", False))
        book("g").lead_on(even_plan(2, 1), flat(2, 1, 0))
        self.same((book("g").bounds == book("t"), book("g") is book("g")), (True, False))
        book("t").cells.clear()
        book("p").shares.append(1)
        book.names().clear()
        book.script().clear()
        self.same(state(book), state(started()))

    def test_names_that_are_commands(self):
        book = Book()
        lines = ["table table 2 1 0 1", "keeper keeper table", "breaker drop table", "paper paper table 0 keeper drop"]
        self.same(book.run("\n".join(lines)), ["fold 0", "least 0", "least 1/2", "right"])
        self.same(book.names(), ["table", "keeper", "drop", "paper"])
        self.refuses(InUse, {"name": "drop", "user": "paper"}, book, "drop drop")
        self.same(book.run("drop paper\ndrop drop"), ["dropped", "dropped"])
        self.same(book.do("best a12345678901 keeper"), "fold 0")


class WrongWords(BookCase):
    def test_lines_that_cannot_be_divided_and_wrong_numbers_of_words(self):
        book = started()
        for line in ("", " ", "even a  2 1", " even a 2 1", "even a 2 1 ", "nothing a", "Even a 2 1", "even T 9", "drop", "drop t u",
                     "table a 2", "plan T", "best", "keeper A", "join t t", "paper t t", "game a p t", "even A 9 9 9"):
            self.refuses(BadText, {"line": 1}, book, line)

    def test_names_go_first(self):
        book = started()
        rest = {
            "table": "9 9 x", "plan": "x x", "even": "x x", "sure": "9 -", "last": "0 0", "misses": "A", "best": "A A", "raise": "A x",
            "change": "A x x", "join": "A A", "keeper": "A", "breaker": "A", "blend": "A A x", "follow": "A A",
            "paper": "A x A A", "game": "A A x",
        }
        for command, words in rest.items():
            for name in NOT_NAMES:
                self.refuses(BadName, {"found": name}, book, f"{command} {name} {words}")
            for name in book.names():
                self.refuses(TakenName, {"name": name}, book, f"{command} {name} {words}")

    def test_widths_and_rounds(self):
        book = started()
        for command, rest in (("table", " x"), ("plan", " x"), ("even", ""), ("last", "")):
            for word in NOT_DIGITS:
                self.refuses(BadText, {"line": 1}, book, f"{command} a {word} 1{rest}")
                self.refuses(BadText, {"line": 1}, book, f"{command} a {word} 9{rest}")
                for width in "12345":
                    self.refuses(BadText, {"line": 1}, book, f"{command} a {width} {word}{rest}")
            for width in (0, 6, 7, 9):
                for rounds in ("1", "x", "9"):
                    told = {"found": width, "low": 1, "high": 5}
                    self.refuses(BadCount, told, book, f"{command} a {width} {rounds}{rest}")
            for width, most in MOST_ROUNDS.items():
                for rounds in range(most + 1, 10):
                    told = {"found": rounds, "low": 0, "high": most}
                    self.refuses(BadCount, told, book, f"{command} a {width} {rounds}{rest}")
        for word in NOT_DIGITS:
            self.refuses(BadText, {"line": 1}, book, f"sure a {word} x")
        for width in (0, 6, 9):
            self.refuses(BadCount, {"found": width, "low": 1, "high": 5}, book, f"sure a {width} x")

    def test_cells_shares_and_numbers(self):
        book = started()
        for word in NOT_TEXTS:
            for line in (
                f"table a 2 1 {word} 1", f"table a 2 1 1 {word}", f"table a 2 1 {word}", f"table a 2 1 1 2 3 {word}",
                f"plan a 2 1 {word} 1", f"plan a 2 1 5 {word}", f"plan a 2 1 1 {word} 1", f"raise a t {word}",
                f"change a t 0 {word}", f"change a t x {word}", f"blend a p q {word}", f"blend a p w {word}",
                f"paper a t {word} p q", f"paper a t {word} t A",
            ):
                self.refuses(BadText, {"line": 1}, book, line)
        long = "3" * 4000
        self.same(book.do(f"table a 1 0 -{long}"), f"fold -{long}")

    def test_words_for_tables_and_plans(self):
        book = started()
        tables = ["raise a {} 1", "change a {} 0 1", "join a {} t", "join a t {}", "keeper a {}", "breaker a {}",
                  "paper a {} 0 p q", "game a p {} 0"]
        plans = ["misses a {}", "best a {}", "best a p q {}", "blend a {} p 0", "blend a p {} 0", "follow a {} p",
                 "follow a p {}", "paper a t 0 {} p", "paper a t 0 p {}", "game a {} t 0"]
        for forms, others in ((tables, ["p", "e", "f", "g"]), (plans, ["t", "u", "f", "g"])):
            for form in forms:
                for name in NOT_NAMES:
                    self.refuses(BadName, {"found": name}, book, form.format(name))
                for name in ("a", "no", "tt", "table"):
                    self.refuses(UnknownName, {"name": name}, book, form.format(name))
                for name in others:
                    self.refuses(WrongKind, {"name": name}, book, form.format(name))

    def test_the_first_of_two_wrong_words_decides(self):
        book = started()
        for line, error, told in (
            ("join a A no", BadName, {"found": "A"}), ("join a no A", UnknownName, {"name": "no"}),
            ("join a p no", WrongKind, {"name": "p"}), ("join a t A", BadName, {"found": "A"}),
            ("raise a p x", WrongKind, {"name": "p"}), ("raise a t x", BadText, {"line": 1}),
            ("paper a t x no A", BadText, {"line": 1}), ("paper a t 1 no A", UnknownName, {"name": "no"}),
            ("paper a t 1 p A", BadName, {"found": "A"}), ("blend a no t x", UnknownName, {"name": "no"}),
            ("blend a p t x", WrongKind, {"name": "t"}), ("game a t no 9", WrongKind, {"name": "t"}),
            ("game a p no 9", UnknownName, {"name": "no"}), ("table a x 9 x", BadText, {"line": 1}),
            ("table a 9 x x", BadCount, {"found": 9, "low": 1, "high": 5}),
            ("table a 2 9 x", BadCount, {"found": 9, "low": 0, "high": 8}), ("table a 2 1 x", BadText, {"line": 1}),
            ("even t 9 9", TakenName, {"name": "t"}), ("best a p no t", UnknownName, {"name": "no"}),
        ):
            self.refuses(error, told, book, line)

    def test_errors_of_what_is_named_come_last(self):
        book = started()
        for line, error, told in (
            ("table a 2 1 1", BadSize, {"found": 1, "due": 2}), ("table a 2 1", BadSize, {"found": 0, "due": 2}),
            ("table a 2 0 1 2", BadSize, {"found": 2, "due": 1}), ("table a 5 0", BadSize, {"found": 0, "due": 1}),
            ("plan a 2 1 1", BadSize, {"found": 1, "due": 2}), ("plan a 2 0 1", BadSize, {"found": 1, "due": 0}),
            ("plan a 3 2 1 0", BadSize, {"found": 2, "due": 12}), ("plan a 2 2 1 0 1 0", BadSize, {"found": 4, "due": 6}),
            ("plan a 2 1 1 1", BadShare, {"at": ""}), ("plan a 2 2 1 0 1 0 2 -1", BadShare, {"at": "1"}),
            ("plan a 2 2 1 0 0 0 2 -1", BadShare, {"at": "0"}), ("plan a 1 1 0", BadShare, {"at": ""}),
            ("sure a 2 2", BadRow, {"found": "2"}), ("sure a 2 000000000", BadRow, {"found": "0" * 9}),
            ("sure a 2 --", BadRow, {"found": "--"}), ("sure a 5 0000", BadRow, {"found": "0000"}),
            ("best a", NoHelper, {}), ("best a p q p q p q", BadCount, {"found": 6, "low": 1, "high": 5}),
            ("best a p e", Mismatch, {}), ("best a w p", Mismatch, {}),
            ("change a t 2 1", BadRow, {"found": "2"}), ("change a t - 1", BadRow, {"found": ""}),
            ("change a t 00 1", BadRow, {"found": "00"}), ("blend a p e 0", Mismatch, {}), ("blend a p w 2", Mismatch, {}),
            ("blend a p q 2", BadWeight, {}), ("blend a p q -1/9", BadWeight, {}), ("follow a p w", Mismatch, {}),
            ("game a e t 0", Mismatch, {}), ("game a w t 9", Mismatch, {}), ("game a p t 2", BadRow, {"found": "2"}),
            ("game a p t 00", BadRow, {"found": "00"}), ("game a p t --", BadRow, {"found": "--"}),
        ):
            self.refuses(error, told, book, line)
        book.run("even m 2 8\ntable n 5 3" + " 0" * 125 + "\nmisses o m\ntable r 3 1 0 0 0\ntable s 5 1 0 0 0 0 0")
        self.refuses(BadCount, {"found": 9, "low": 0, "high": 8}, book, "follow a m p")
        self.refuses(BadCount, {"found": 9, "low": 0, "high": 8}, book, "join a t o")
        self.refuses(BadCount, {"found": 4, "low": 0, "high": 3}, book, "join a n s")
        self.refuses(Mismatch, {}, book, "join a o r")

    def test_the_dash_is_the_empty_text_only_for_rows(self):
        book = started()
        self.refuses(BadText, {"line": 1}, book, "table a 2 0 -")
        self.refuses(BadName, {"found": "-"}, book, "even - 2 1")
        self.refuses(BadName, {"found": "-"}, book, "keeper a -")
        self.refuses(BadText, {"line": 1}, book, "even a - 1")
        self.refuses(BadText, {"line": 1}, book, "raise a t -")
        self.same(book.run("sure a 3 -\ngame b p t -"), ["least 0", "misses 0 room 0"])

    def test_shares_as_many_as_the_product(self):
        for width, most in MOST_ROUNDS.items():
            for rounds in (0, 1, most):
                due = width * len(inner_texts(width, rounds))
                book = Book()
                for many in (0, due - 1, due + 1):
                    if many != due and many >= 0:
                        line = " ".join(["plan", "a", str(width), str(rounds), *["0"] * many])
                        self.refuses(BadSize, {"found": many, "due": due}, book, line)
                shares = (["1"] + ["0"] * (width - 1)) * len(inner_texts(width, rounds))
                line = " ".join(["plan", "a", str(width), str(rounds), *shares])
                self.makes(book, line, sure_plan(width, "0" * rounds), "least 0")


class Dropping(BookCase):
    def test_drop(self):
        book = started()
        self.same(book.do("drop e"), "dropped")
        self.same(book.names(), ["t", "u", "p", "q", "f", "g", "w"])
        self.same(("e" in book, len(book), book.script()[-1]), (False, 7, "drop e"))
        self.refuses(UnknownName, {"name": "e"}, book, "drop e")
        self.refuses(UnknownName, {"name": "e"}, book, "keeper a e")

    def test_wrong_names(self):
        book = started()
        for name in NOT_NAMES:
            self.refuses(BadName, {"found": name}, book, f"drop {name}")
        for name in ("a", "no", "drop"):
            self.refuses(UnknownName, {"name": name}, book, f"drop {name}")

    def test_the_first_user_in_the_order_of_making(self):
        book = started()
        self.refuses(InUse, {"name": "t", "user": "f"}, book, "drop t")
        self.refuses(InUse, {"name": "p", "user": "g"}, book, "drop p")
        book.run("misses b p\nkeeper a t\njoin c t t")
        self.refuses(InUse, {"name": "t", "user": "f"}, book, "drop t")
        book.do("drop f")
        self.refuses(InUse, {"name": "t", "user": "g"}, book, "drop t")
        book.do("drop g")
        self.refuses(InUse, {"name": "t", "user": "a"}, book, "drop t")
        self.refuses(InUse, {"name": "p", "user": "b"}, book, "drop p")
        book.run("drop c\ndrop a\ndrop t")
        self.same(book.names(), ["u", "p", "q", "e", "w", "b"])

    def test_each_use_counts(self):
        for line in ("best a q p", "blend a q p 0", "blend a p q 0", "follow a q p", "paper a u 0 q p", "paper a u 0 p q",
                     "game a p t -", "misses a p"):
            book = Book()
            book.run("even p 2 1\neven q 2 1\ntable t 2 1 0 0\ntable u 2 1 0 0")
            book.do(line)
            self.refuses(InUse, {"name": "p", "user": "a"}, book, "drop p")
            book.do("drop a")
            self.same(book.do("drop p"), "dropped")
        for line in ("raise a t 1", "change a t 0 1", "join a u t", "join a t u", "keeper a t", "breaker a t", "paper a t 0 p p",
                     "game a p t -"):
            book = Book()
            book.run("even p 2 1\ntable t 2 1 0 0\ntable u 2 1 0 0")
            book.do(line)
            self.refuses(InUse, {"name": "t", "user": "a"}, book, "drop t")

    def test_words_that_are_no_use(self):
        book = Book()
        book.run("table b 2 1 0 0\nsure a 2 0\nchange c b 0 1\ndrop c\ndrop a")
        self.same(book.do("drop b"), "dropped")
        self.same((book.names(), len(book.script())), ([], 6))

    def test_a_dropped_name_given_again(self):
        book = started()
        book.run("drop w\neven w 2 1\ndrop e\ntable e 1 0 5")
        self.same(book.names(), ["t", "u", "p", "q", "f", "g", "w", "e"])
        self.same((book.sort_of("e"), book.line_of("w"), book("w") == even_plan(2, 1)), ("table", "even w 2 1", True))
        book.do("best a w")
        self.refuses(InUse, {"name": "w", "user": "a"}, book, "drop w")


class Undoing(BookCase):
    def test_undo_takes_back_one_line(self):
        book = Book()
        states = []
        for line in START.split("\n") + ["drop e", "drop w", "even w 5 1", "best x p q", "drop x", "drop g", "drop f"]:
            states.append(state(book))
            book.do(line)
        for due in reversed(states):
            line = book.script()[-1]
            self.same(book.undo(), line)
            self.same(state(book), due)
        self.raises(NothingToTakeBack, {}, book.undo)
        self.same(state(book), state(Book()))

    def test_undo_of_a_drop_puts_the_thing_back_at_its_place(self):
        book = started()
        names = book.names()
        book.run("drop e\ndrop w")
        self.same(book.undo(), "drop w")
        self.same(book.undo(), "drop e")
        self.same(book.names(), names)
        self.same((book.sort_of("e"), book.line_of("e")), ("plan", "even e 2 2"))
        book.do("keeper a u")
        self.same(book.names(), names + ["a"])

    def test_after_undo_names_are_free_again(self):
        book = started()
        book.undo()
        self.same(book.do("table w 1 0 1"), "fold 1")
        book.do("keeper a t")
        self.refuses(InUse, {"name": "t", "user": "f"}, book, "drop t")
        book.undo()
        book.run("drop f\ndrop g")
        self.same(book.do("drop t"), "dropped")

    def test_empty_books(self):
        book = Book()
        self.same((book.names(), book.script(), book.script_text(), len(book), list(book)), ([], [], "", 0, []))
        self.raises(NothingToTakeBack, {}, book.undo)
        self.refuses(UnknownName, {"name": "a"}, book, "drop a")


class Running(BookCase):
    def test_answers_and_script(self):
        book = Book()
        lines = START.split("\n")
        answers = book.run(START)
        self.same(answers, ["fold 0", "fold -1/2", "least 1/2", "least 0", "least 1", "right", "misses 1/2 room 1/2", "least 2/3"])
        self.same((book.script(), book.script_text()), (lines, START))
        one = Book()
        self.same([one.do(line) for line in lines], answers)
        self.same(state(one), state(book))
        self.same(Book().run("even a 2 1\ndrop a"), ["least 1/2", "dropped"])
        for call in (book.script, book.names):
            self.new_list(call)
        self.new_list(lambda: Book().run("even a 2 1"))

    def test_a_line_that_stops_a_run(self):
        for before in ("", "even z 2 1\ndrop z\neven y 3 1"):
            lines = START.split("\n")
            for at in range(len(lines)):
                for wrong in ("", "even", "even t2 9 9", "drop no", "keeper x no", "table x 2 1 1", " ", "best x"):
                    book = replayed(before)
                    due = state(book)
                    text = "\n".join(lines[:at] + [wrong] + lines[at:])
                    self.raises(Stopped, {"line": at + 1}, book.run, text)
                    self.same(state(book), due)
                    if at > 0 or wrong != "":
                        self.raises(Stopped, {"line": at + 1}, replayed, "\n".join(lines[:at] + [wrong]))

    def test_drops_in_a_run_that_stops(self):
        book = started()
        due = state(book)
        self.raises(Stopped, {"line": 5}, book.run, "drop w\neven w 2 1\ndrop e\nbest e q\ndrop q")
        self.same(state(book), due)
        self.same(book.undo(), "even w 3 1")

    def test_empty_texts_and_newlines(self):
        book = started()
        due = state(book)
        self.raises(Stopped, {"line": 1}, book.run, "")
        self.raises(Stopped, {"line": 2}, book.run, "even a 2 1\n")
        self.raises(Stopped, {"line": 1}, book.run, "\neven a 2 1")
        self.raises(Stopped, {"line": 2}, book.run, "even a 2 1\n\neven b 2 1")
        self.same(state(book), due)

    def test_lines_count_in_the_text_passed(self):
        book = started()
        self.raises(Stopped, {"line": 1}, book.run, "even t 2 1")
        self.raises(Stopped, {"line": 3}, book.run, "even a 2 1\neven b 2 1\neven a 2 1")

    def test_stopped_is_an_error_of_the_program(self):
        self.assertEqual(Stopped.__bases__, (NotBehindError,))

    def test_replayed(self):
        book = replayed("")
        self.same(state(book), state(Book()))
        text = START + "\ndrop e\neven e 5 1\ndrop w\nbest x q p"
        book = replayed(text)
        self.assertIs(type(book), Book)
        again = replayed(book.script_text())
        self.same(state(again), state(book))
        self.same(book.script_text(), text)
        self.raises(Stopped, {"line": 2}, replayed, "even a 2 1\neven a 2 1")
        self.raises(Stopped, {"line": 2}, replayed, "even a 2 1\n")
        self.raises(Stopped, {"line": 1}, replayed, "\n")

    def test_long_scripts(self):
        book = Book()
        for at in range(200):
            book.run(f"even a{at} 2 1\ndrop a{at}")
        self.same((len(book.script()), len(book)), (400, 0))
        for _ in range(399):
            book.undo()
        self.same(book.names(), ["a0"])


class Telling(BookCase):
    def test_names_length_iteration_and_membership(self):
        book = started()
        names = ["t", "u", "p", "q", "e", "f", "g", "w"]
        self.same((book.names(), len(book), list(book)), (names, 8, names))
        for name in names:
            self.same(name in book, True)
        for text in ("a", "", "A", "-", "even w 3 1", "tt", " "):
            self.same(text in book, False)

    def test_sorts_and_lines(self):
        book = started()
        self.same([book.sort_of(name) for name in book], ["table", "table", "plan", "plan", "plan", "paper", "game", "plan"])
        self.same([book.line_of(name) for name in book], START.split("\n"))

    def test_wrong_names(self):
        book = started()
        for call in (book, book.sort_of, book.paper_table, book.line_of):
            for name in [*NOT_NAMES, "", "a b", " ", "a" * 99]:
                self.raises(BadName, {"found": name}, call, name)
            for name in ("a", "no", "table", "a" * 12):
                self.raises(UnknownName, {"name": name}, call, name)

    def test_twins_stay_apart(self):
        book = started()
        book.do("drop e")
        twin = book.twin()
        self.assertIs(type(twin), Book)
        self.same(state(twin), state(book))
        due = state(book)
        twin.run("even a 2 1\ndrop w")
        self.same(state(book), due)
        for _ in range(4):
            twin.undo()
        self.same(state(book), due)
        due = state(twin)
        book.undo()
        book.run("keeper a t\ndrop a")
        self.same(state(twin), due)
        self.same(("e" in twin, "e" in book), (True, True))

    def test_errors_that_books_raise_are_all_of_the_program(self):
        book = started()
        for line in ("even a 2 x", "even A 2 1", "even t 2 1", "join a t no", "drop t", "table a 2 1 x"):
            with self.assertRaises(NotBehindError):
                book.do(line)
        self.raises(BadNumber, {}, raised, book("t"), None)


if __name__ == "__main__":
    unittest.main()
