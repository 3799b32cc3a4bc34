"""Points 63 and 64, and the section notbehind/games.py."""

import unittest
from fractions import Fraction

from model import misses_on, slacks, wide_folds
from notbehind.errors import (
    BadCount, BadNumber, BadRow, BadSize, BadText, GameOver, Mismatch, NotBehindError, NothingToTakeBack,
)
from notbehind.filling import wide_fold, wide_keeper
from notbehind.games import Game, first_wrong_entry, is_journal, journal_of, journal_text, read_journal
from notbehind.horizons import joined
from notbehind.plans import even_plan, sure_plan
from notbehind.tables import Table, flat
from samples import some_plan, some_table
from support import (
    EDGE_SHAPES, HUGE, MOST_ROUNDS, NOT_NUMBERS, SHAPES, SMALL_SHAPES, Case, all_texts, pair, pairs, texts, value_of,
    wrong_counts, wrong_texts,
)

HALF = (1, 2)


def some_game(width, rounds, seed=1):
    return Game(some_plan(width, rounds, seed), some_table(width, rounds, seed))


def state(game):
    """All that a game tells of itself, in values that can be compared; plans and tables by their numbers."""
    return (
        game.chooser.width, game.chooser.rounds, game.chooser.shares, game.bounds.rounds, game.bounds.cells,
        game.beginning, game.left, game.closed, game.done, game.misses, game.room, len(game), list(game), game.journal(),
    )


def closed_game(width=2, rounds=2, played="0"):
    game = some_game(width, rounds)
    game.play(played)
    game.close()
    return game


def journal_by_hand(chooser, row):
    found = []
    for at, outcome in enumerate(row):
        sharing = chooser(row[:at])
        found.append((row[:at], outcome, sharing, pair(1 - value_of(sharing[int(outcome)]))))
    return found


class GameCase(Case):
    def refuses(self, error, told, game, call, *args):
        """The call raises the error, and the game stays as it was."""
        before = state(game)
        self.raises(error, told, call, *args)
        self.same(state(game), before)


class Played(GameCase):
    def test_games_of_every_shape(self):
        for width, rounds in SHAPES:
            chooser, bounds = some_plan(width, rounds), some_table(width, rounds)
            folds = wide_folds(bounds)
            for row in texts(width, rounds)[::41]:
                game = Game(chooser, bounds)
                for at in range(rounds + 1):
                    b = row[:at]
                    self.same((game.chooser == chooser, game.bounds == bounds), (True, True))
                    self.same((game.beginning, game.left, len(game), list(game)), (b, rounds - at, at, list(b)))
                    self.same((game.closed, game.done), (False, at == rounds))
                    misses = misses_on(chooser, b)
                    self.same((game.misses, game.room), (pair(misses), pair(folds[b] - misses)))
                    self.same(game.journal(), journal_by_hand(chooser, b))
                    if at < rounds:
                        self.same(game.tell(), chooser(b))
                        self.same(game.come(row[at]), pair(1 - value_of(chooser(b)[int(row[at])])))
                self.same(game.room, pair(slacks(chooser, bounds)[row]))

    def test_the_room_at_the_start_is_the_fold(self):
        for width, rounds in SHAPES:
            self.same(some_game(width, rounds, 3).room, wide_fold(some_table(width, rounds, 3)))

    def test_the_room_of_the_keeper_never_falls(self):
        for width, rounds in SHAPES:
            bounds = some_table(width, rounds, 2)
            for row in texts(width, rounds)[::17]:
                game = Game(wide_keeper(bounds), bounds)
                room = value_of(game.room)
                for outcome in row:
                    game.come(outcome)
                    self.assertGreaterEqual(value_of(game.room), room)
                    room = value_of(game.room)

    def test_the_room_of_another_chooser_may_fall(self):
        game = Game(sure_plan(2, "00"), flat(2, 2, 1))
        self.same(game.room, (0, 1))
        game.come("1")
        self.same((game.misses, game.room), ((1, 1), (-1, 2)))
        game.back()
        game.come("0")
        self.same(game.room, (1, 2))

    def test_play(self):
        for width, rounds in SHAPES:
            chooser = some_plan(width, rounds)
            for row in texts(width, rounds)[::53]:
                for cut in range(rounds + 1):
                    game, other = some_game(width, rounds), some_game(width, rounds)
                    found = game.play(row[:cut]) + game.play("") + game.play(row[cut:])
                    self.same(found, [entry[3] for entry in journal_by_hand(chooser, row)])
                    self.same([other.come(outcome) for outcome in row], found)
                    self.same(state(game), state(other))

    def test_games_of_0_rounds(self):
        for width in MOST_ROUNDS:
            game = Game(even_plan(width, 0), flat(width, 0, (2, 4)))
            self.same((game.left, game.closed, game.done, game.misses, game.room), (0, False, True, (0, 1), HALF))
            self.same((game.play(""), game.journal(), len(game), list(game)), ([], [], 0, []))
            self.refuses(GameOver, {}, game, game.tell)
            self.refuses(GameOver, {}, game, game.come, "0")
            self.refuses(GameOver, {}, game, game.play, "0")
            self.refuses(GameOver, {}, game, game.close)
            self.refuses(NothingToTakeBack, {}, game, game.back)
            self.same(game.twin().done, True)

    def test_unlike_shapes(self):
        for shape in SHAPES:
            for other in ((2, 2), (2, 0), (3, 2), (1, 3)):
                if shape != other:
                    self.raises(Mismatch, {}, Game, even_plan(*shape), flat(*other, 0))

    def test_lists_are_new(self):
        game = some_game(2, 3)
        game.play("01")
        self.new_list(game.journal)
        self.new_list(lambda: some_game(2, 3).play("01"))


class Deeds(GameCase):
    def test_at_the_start(self):
        game = some_game(2, 2)
        self.refuses(NothingToTakeBack, {}, game, game.back)
        self.same(game.tell(), game.chooser(""))
        self.same(game.play(""), [])
        self.same(game.close(), None)
        self.same((game.beginning, game.left, game.closed, game.done), ("", 2, True, True))

    def test_behind_the_last_round(self):
        game = some_game(2, 2)
        game.play("10")
        self.same((game.left, game.closed, game.done), (0, False, True))
        self.refuses(GameOver, {}, game, game.tell)
        self.refuses(GameOver, {}, game, game.come, "0")
        self.refuses(GameOver, {}, game, game.play, "0")
        self.refuses(GameOver, {}, game, game.close)
        self.same(game.play(""), [])
        self.same(game.back(), "0")
        self.same((game.beginning, game.left, game.done), ("1", 1, False))
        self.same(game.tell(), game.chooser("1"))

    def test_closed_games(self):
        for played in ("", "0", "01"):
            game = closed_game(2, 3, played)
            folds = wide_folds(some_table(2, 3))
            self.same((game.closed, game.done, game.beginning, game.left), (True, True, played, 3 - len(played)))
            misses = misses_on(game.chooser, played)
            self.same((game.misses, game.room), (pair(misses), pair(folds[played] - misses)))
            self.same((len(game), list(game)), (len(played), list(played)))
            self.same(game.journal(), journal_by_hand(game.chooser, played))
            self.refuses(GameOver, {}, game, game.tell)
            self.refuses(GameOver, {}, game, game.come, "0")
            self.refuses(GameOver, {}, game, game.play, "0")
            self.refuses(GameOver, {}, game, game.play, "")
            self.refuses(GameOver, {}, game, game.back)
            self.refuses(GameOver, {}, game, game.close)
            self.refuses(GameOver, {}, game, game.lead_on, even_plan(2, 1), flat(2, 1, 0))

    def test_wrong_outcomes_go_before_the_state(self):
        for width, rounds in EDGE_SHAPES:
            game, over = some_game(width, rounds), some_game(width, rounds)
            over.play("0" * rounds)
            games = [game, over] + ([closed_game(width, rounds, "")] if rounds > 0 else [])
            for each in games:
                for text in [*wrong_texts(width), "", "00", "0" * 99]:
                    self.refuses(BadRow, {"found": text}, each, each.come, text)
                for text in wrong_texts(width):
                    if not set(text) <= set("01234"[:width]):
                        self.refuses(BadRow, {"found": text}, each, each.play, text)
                        long = text * 9
                        self.refuses(BadRow, {"found": long}, each, each.play, long)
                self.refuses(GameOver, {}, each, each.play, "0" * (rounds + 1))

    def test_texts_that_are_longer_than_the_rounds_left(self):
        game = some_game(2, 3)
        game.play("0")
        self.refuses(GameOver, {}, game, game.play, "000")
        self.refuses(GameOver, {}, game, game.play, "0" * 50000)
        self.same(len(game.play("11")), 2)

    def test_back(self):
        for width, rounds in SMALL_SHAPES:
            for row in texts(width, rounds)[::3]:
                game = some_game(width, rounds)
                states = [state(game)]
                for outcome in row:
                    game.come(outcome)
                    states.append(state(game))
                for outcome in reversed(row):
                    self.same(state(game), states.pop())
                    self.same(game.back(), outcome)
                self.same(state(game), states.pop())
                self.refuses(NothingToTakeBack, {}, game, game.back)

    def test_twins_stay_apart(self):
        game = some_game(2, 3)
        game.play("0")
        twin = game.twin()
        self.assertIs(type(twin), Game)
        self.same(state(twin), state(game))
        kept = state(game)
        twin.play("11")
        self.same(state(game), kept)
        twin.back()
        twin.back()
        twin.close()
        self.same(state(game), kept)
        self.same(twin.twin().closed, True)
        self.same(state(twin.twin()), state(twin))
        kept = state(twin)
        game.lead_on(even_plan(2, 2), flat(2, 2, 0))
        game.back()
        self.same(state(twin), kept)

    def test_journals_told_and_changed_by_the_caller(self):
        game = some_game(2, 3)
        game.play("01")
        game.journal().clear()
        game.journal().append("more")
        self.same(game.journal(), journal_by_hand(game.chooser, "01"))


class LedOn(GameCase):
    def test_games_led_on(self):
        for width, most in MOST_ROUNDS.items():
            for rounds in range(most):
                more = most - rounds
                for played in (0, rounds // 2, rounds):
                    game = some_game(width, rounds)
                    row = "0" * played
                    game.play(row)
                    chooser, bounds = some_plan(width, more, 5), some_table(width, more, 5)
                    self.same(game.lead_on(chooser, bounds), None)
                    other = Game(some_plan(width, rounds) + chooser, joined(some_table(width, rounds), bounds))
                    other.play(row)
                    self.same(state(game), state(other))
                    self.same((game.left, game.done), (most - played, False))

    def test_played_games_are_led_on(self):
        game = Game(even_plan(2, 1), flat(2, 1, 0))
        game.play("1")
        game.lead_on(sure_plan(2, "1"), Table(2, 1, [5, 6]))
        self.same((game.done, game.left, game.beginning), (False, 1, "1"))
        self.same(game.bounds.cells, pairs([5, 6, 5, 6]))
        self.same(game.come("0"), (1, 1))
        self.same((game.misses, game.room), ((3, 2), (7, 2)))

    def test_what_lead_on_added_stays_behind_back(self):
        game = Game(even_plan(2, 1), flat(2, 1, 0))
        game.play("1")
        game.lead_on(even_plan(2, 1), flat(2, 1, 3))
        self.same(game.back(), "1")
        self.same((game.left, game.chooser.rounds, game.bounds.cells), (2, 2, [(3, 1)] * 4))
        self.same(game.room, (2, 1))

    def test_0_rounds_more(self):
        game = Game(even_plan(2, 1), flat(2, 1, 0))
        game.play("1")
        game.lead_on(even_plan(2, 0), flat(2, 0, (1, 2)))
        self.same((game.done, game.left, game.bounds.cells, game.room), (True, 0, [HALF, HALF], (0, 1)))

    def test_errors_in_their_order(self):
        open_game, over, closed = some_game(2, 2), some_game(2, 2), closed_game(2, 2)
        over.play("00")
        for game in (open_game, over, closed):
            for wrong in ((3, 1), (1, 8), (5, 3), (3, 0)):
                self.refuses(Mismatch, {}, game, game.lead_on, even_plan(*wrong), flat(*wrong, 0))
                self.refuses(Mismatch, {}, game, game.lead_on, even_plan(*wrong), flat(2, 8, 0))
            for wrong in ((2, 7), (3, 5), (1, 8), (2, 0)):
                self.refuses(Mismatch, {}, game, game.lead_on, even_plan(2, 8), flat(*wrong, 0))
            for more in (7, 8):
                told = {"found": 2 + more, "low": 0, "high": 8}
                self.refuses(BadCount, told, game, game.lead_on, even_plan(2, more), flat(2, more, 0))
        for more in (0, 1, 6):
            self.refuses(GameOver, {}, closed, closed.lead_on, even_plan(2, more), flat(2, more, 0))
        full = some_game(5, 3)
        self.refuses(BadCount, {"found": 4, "low": 0, "high": 3}, full, full.lead_on, even_plan(5, 1), flat(5, 1, 0))


class Journals(GameCase):
    def test_journals_of_choosers(self):
        for width, rounds in SHAPES:
            chooser = some_plan(width, rounds)
            for b in all_texts(width, rounds)[::13]:
                journal = journal_of(chooser, b)
                self.same(journal, journal_by_hand(chooser, b))
                self.same(first_wrong_entry(journal, chooser), None)
                self.same(is_journal(tuple(journal), chooser), True)
        self.same(journal_of(even_plan(2, 2), "1"), [("", "1", (HALF, HALF), HALF)])
        self.new_list(lambda: journal_of(even_plan(2, 2), "10"))
        for width, rounds in EDGE_SHAPES:
            for text in [*wrong_texts(width), "0" * (rounds + 1)]:
                if text not in all_texts(width, rounds):
                    self.raises(BadRow, {"found": text}, journal_of, even_plan(width, rounds), text)

    def test_entries_wrong_at_each_place(self):
        for width, rounds in SMALL_SHAPES:
            chooser = some_plan(width, rounds, 2)
            for row in texts(width, rounds)[::4]:
                for at in range(rounds):
                    b, outcome, shares, miss = journal_of(chooser, row)[at]
                    others = [
                        (b + "0", outcome, shares, miss), ("x", outcome, shares, miss), (b[1:] + "7", outcome, shares, miss),
                        (b, "", shares, miss), (b, "5", shares, miss), (b, outcome * 2, shares, miss),
                        (b, " ", shares, miss), (b, outcome, shares + ((0, 1),), miss), (b, outcome, shares[1:], miss),
                        (b, outcome, (pair(value_of(shares[0]) + Fraction(1, HUGE)), *shares[1:]), miss),
                        (b, outcome, shares, pair(value_of(miss) + Fraction(1, HUGE))), (b, outcome, (), miss),
                        (b, outcome, shares, -1),
                    ]
                    for wrong in others:
                        journal = journal_of(chooser, row)
                        journal[at] = wrong
                        self.same(first_wrong_entry(journal, chooser), at)
                        self.same(is_journal(journal, chooser), False)

    def test_another_outcome_shows_in_the_same_or_a_later_entry(self):
        journal = journal_of(even_plan(2, 3), "010")
        journal[1] = ("0", "0", (HALF, HALF), HALF)
        self.same(first_wrong_entry(journal, even_plan(2, 3)), 2)
        journal = journal_of(sure_plan(2, "000"), "010")
        journal[1] = ("0", "0", ((1, 1), (0, 1)), (1, 1))
        self.same(first_wrong_entry(journal, sure_plan(2, "000")), 1)

    def test_the_first_of_several_wrong_entries(self):
        journal = journal_of(even_plan(2, 3), "010")
        journal[2] = ("", "", (), 0)
        self.same(first_wrong_entry(journal, even_plan(2, 3)), 2)
        journal[1] = ("x", "0", (HALF, HALF), HALF)
        self.same(first_wrong_entry(journal, even_plan(2, 3)), 1)
        self.same(first_wrong_entry(journal[1:], even_plan(2, 3)), 0)

    def test_numbers_are_compared_by_value(self):
        journal = [("", "1", ((2, 4), (5, 10)), (3, 6)), ("1", "0", [(HUGE, 2 * HUGE), (1, 2)], (1, 2))]
        self.same(first_wrong_entry(journal, even_plan(2, 2)), None)
        self.same(first_wrong_entry([("", "0", (1,), 0)], even_plan(1, 1)), None)

    def test_entries_behind_the_last_round(self):
        for width, rounds in SMALL_SHAPES:
            chooser = even_plan(width, rounds)
            journal = journal_of(chooser, "0" * rounds)
            longer = journal_of(even_plan(width, rounds + 1), "0" * (rounds + 1))
            self.same(longer[:rounds], journal)
            self.same(first_wrong_entry(longer, chooser), rounds)
            self.same(first_wrong_entry(longer * 9, chooser), rounds)
            for wrong in NOT_NUMBERS:
                late = longer + [("x", "x", (), wrong)]
                self.raises(BadNumber, {}, first_wrong_entry, late, chooser)
                self.raises(BadNumber, {}, is_journal, late, chooser)
        self.same(first_wrong_entry([], even_plan(2, 0)), None)
        self.same(is_journal([], even_plan(2, 3)), True)

    def test_all_numbers_are_checked_first(self):
        for wrong in NOT_NUMBERS:
            for entry in (("x", "x", (0, wrong), 0), ("x", "x", (wrong,) * 9, 0), ("", "0", (HALF, HALF), wrong)):
                journal = [("x", "x", (), 0), entry]
                self.raises(BadNumber, {}, first_wrong_entry, journal, even_plan(2, 1))
                self.raises(BadNumber, {}, is_journal, journal, even_plan(2, 1))

    def test_the_journal_stays_as_it_was(self):
        journal = [("", "1", ((2, 4), (5, 10)), (3, 6))]
        first_wrong_entry(journal, even_plan(2, 2))
        journal_text(journal)
        self.same(journal, [("", "1", ((2, 4), (5, 10)), (3, 6))])


class Texts(Case):
    def test_texts_that_are_read_back(self):
        for width, rounds in SHAPES:
            chooser = some_plan(width, rounds, 3)
            for b in all_texts(width, rounds)[::29]:
                journal = journal_of(chooser, b)
                text = journal_text(tuple(journal), width=width)
                lines = [f"journal {width} {len(b)}"]
                for ahead, outcome, shares, miss in journal:
                    numbers = [str(value_of(number)) for number in (*shares, miss)]
                    lines.append(" ".join([ahead or "-", outcome, *numbers]))
                self.same(text, "\n".join(lines))
                self.same(read_journal(text), journal)
        self.same(journal_text([]), "journal 2 0")
        self.same(read_journal("journal 5 0"), [])
        self.same(journal_text(journal_of(even_plan(2, 2), "10")), "journal 2 2\n- 1 1/2 1/2 1/2\n1 0 1/2 1/2 1/2")
        self.new_list(lambda: read_journal("journal 2 1\n- 1 1/2 1/2 1/2"))

    def test_entries_need_not_be_right(self):
        journal = [("01010101", "1", (-3, (2, 4)), (8, 1)), ("", "0", (0, 0), -5)]
        text = "journal 2 2\n01010101 1 -3 1/2 8\n- 0 0 0 -5"
        self.same(journal_text(journal), text)
        self.same(read_journal(text), [("01010101", "1", ((-3, 1), HALF), (8, 1)), ("", "0", ((0, 1), (0, 1)), (-5, 1))])

    def test_wrong_widths_and_numbers_of_entries(self):
        entry = ("x", "x", (), None)
        for wrong in wrong_counts(1, 5):
            self.raises(BadCount, {"found": wrong, "low": 1, "high": 5}, journal_text, [entry] * 9, width=wrong)
        for width, most in MOST_ROUNDS.items():
            for many in (most + 1, 600):
                self.raises(BadCount, {"found": many, "low": 0, "high": most}, journal_text, [entry] * many, width=width)
            right = ("", "0", (0,) * width, 0)
            self.same(len(read_journal(journal_text([right] * most, width=width))), most)

    def test_wrong_entries_in_their_order(self):
        right = ("", "0", (0, 1), 0)
        for at in (0, 1, 2):
            for entry, error, told in (
                (("2", "x", (), None), BadRow, {"found": "2"}), (("0" * 9, "x", (), None), BadRow, {"found": "0" * 9}),
                (("-", "x", (), None), BadRow, {"found": "-"}), (("0" * 8, "x", (), None), BadRow, {"found": "x"}),
                (("", "", (), None), BadRow, {"found": ""}), (("", "00", (), None), BadRow, {"found": "00"}),
                (("", "2", (), None), BadRow, {"found": "2"}), (("", "1", (None,), None), BadSize, {"found": 1, "due": 2}),
                (("", "1", (None,) * 3, None), BadSize, {"found": 3, "due": 2}), (("", "1", (0, None), 0), BadNumber, {}),
            ):
                journal = [right] * 3
                journal[at] = entry
                self.raises(error, told, journal_text, journal)
                self.raises(error, told, journal_text, journal[:at + 1] + [("x", "x", (), None)])
        for wrong in NOT_NUMBERS:
            self.raises(BadNumber, {}, journal_text, [right, ("", "0", (wrong, 0), 0)])
            self.raises(BadNumber, {}, journal_text, [right, ("", "0", (1, 0), wrong), ("x", "x", (), 0)])

    def test_spoilt_texts_and_their_first_wrong_line(self):
        text = "journal 2 3\n- 1 1/2 1/2 1/2\n1 0 1 0 0\n10 0 -1 2 1"
        self.same(len(read_journal(text)), 3)
        lines = text.split("\n")
        for at, spoilt in (
            (0, "journal 2 4"), (0, "journal 2 2"), (0, "journal 2 9"), (0, "journal 3 3"), (0, "journal 0 3"),
            (0, "journal 6 3"), (0, "journal 2 3 "), (0, " journal 2 3"), (0, "journal  2 3"), (0, "journal 2"), (0, ""),
            (0, "journal 02 3"), (0, "journal 2 03"), (0, "journal 2 -3"), (0, "Journal 2 3"), (0, "table 2 3"),
            (0, "journal 2 3 3"), (0, "journal x 3"), (0, "journal 2 x"),
            (1, ""), (1, "- 1 1/2 1/2"), (1, "- 1 1/2 1/2 1/2 1/2"), (1, " 1 1/2 1/2 1/2"), (1, "- 2 1/2 1/2 1/2"),
            (1, "- - 1/2 1/2 1/2"), (1, "- 11 1/2 1/2 1/2"), (1, "- 1 2/4 1/2 1/2"), (1, "- 1 1/2 1/2 +1"),
            (1, "- 1 1/2 1/2 1/2 "), (1, "- 1  1/2 1/2"), (1, "-1 1 1/2 1/2 1/2"), (1, "2 1 1/2 1/2 1/2"),
            (1, "000000000 1 1/2 1/2 1/2"), (1, "- 1 1/2 -0 1/2"), (1, "-  1/2 1/2 1/2"), (1, "- 1 1/2 1/2 "),
            (2, "1 0 1 0 00"), (2, "1 x 1 0 0"), (2, "-0 0 1 0 0"), (3, "10 0 -1 2 1.0"), (3, "10 0 -1 2"), (3, "a 0 -1 2 1"),
        ):
            found = lines[:at] + [spoilt] + lines[at + 1:]
            due = at + 1
            if spoilt == "journal 2 4":
                due = 5
            if spoilt == "journal 2 2":
                due = 4
            if spoilt == "journal 3 3":
                due = 2
            with self.subTest(spoilt=spoilt):
                self.raises(BadText, {"line": due}, read_journal, "\n".join(found))
                self.raises(BadText, {"line": due}, read_journal, "\n".join(found + ["more"]) if due < 5 else "\n".join(found))

    def test_beginnings_of_at_most_the_most_rounds_outcomes(self):
        for width, most in MOST_ROUNDS.items():
            rest = f"{width - 1}" + " 0" * (width + 1)
            for length in range(most + 1):
                found = read_journal(f"journal {width} 1\n{'0' * length or '-'} {rest}")
                self.same((found[0][0], found[0][1]), ("0" * length, str(width - 1)))
                self.same(journal_text(found, width=width), f"journal {width} 1\n{'0' * length or '-'} {rest}")
            for wrong in ("0" * (most + 1), str(width), "0" * most + " ", "0" * 99):
                self.raises(BadText, {"line": 2}, read_journal, f"journal {width} 1\n{wrong} {rest}")
            if width < 5:
                self.raises(BadText, {"line": 2}, read_journal, f"journal {width} 1\n- {width}" + " 0" * (width + 1))

    def test_texts_that_end_too_early_or_too_late(self):
        lines = "journal 2 3\n- 1 1/2 1/2 1/2\n1 0 1 0 0\n10 0 -1 2 1".split("\n")
        self.raises(BadText, {"line": 1}, read_journal, "")
        for many in (1, 2, 3):
            self.raises(BadText, {"line": many + 1}, read_journal, "\n".join(lines[:many]))
            self.raises(BadText, {"line": many + 1}, read_journal, "\n".join(lines[:many] + [""]))
        for more in ("", "x", "- 1 1/2 1/2 1/2"):
            self.raises(BadText, {"line": 5}, read_journal, "\n".join(lines + [more]))
        self.raises(BadText, {"line": 2}, read_journal, "journal 2 0\n")
        self.raises(BadText, {"line": 2}, read_journal, "journal 1 0\n" + "\n" * 500)

    def test_long_numbers(self):
        long = "7" * 4000
        self.same(read_journal(f"journal 1 1\n- 0 -{long} {long}/2"), [("", "0", ((-int(long), 1),), (int(long), 2))])
        for wrong in (f"-{long}7", f"{long}7", f"1/{long}7"):
            self.raises(BadText, {"line": 2}, read_journal, f"journal 1 1\n- 0 {wrong} 0")
            self.raises(BadText, {"line": 2}, read_journal, f"journal 1 1\n- 0 0 {wrong}")

    def test_a_wrong_text_raises_no_other_error(self):
        for text in ("journal", "journal 2 1\n- 1 1/0 0 0", "journal 1 8\n" + "x\n" * 8, "~" * 9, "journal 5 3\n\n\n"):
            with self.assertRaises(NotBehindError) as caught:
                read_journal(text)
            self.assertIs(type(caught.exception), BadText)


if __name__ == "__main__":
    unittest.main()
