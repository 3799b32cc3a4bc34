"""Things that a book holds by name: how the words of a line make one, and what is told of it."""

from notbehind.errors import BadText, TakenName, UnknownName, WrongKind
from notbehind.filling import wide_breaker, wide_fold, wide_keeper
from notbehind.forms import digit_of
from notbehind.games import Game
from notbehind.helpers import best_table
from notbehind.horizons import joined
from notbehind.lines import kinds_of
from notbehind.machines import last_machine, machine_plan
from notbehind.misses import least_misses, misses_table
from notbehind.papers import is_value_paper
from notbehind.plans import Plan, blended, even_plan, sure_plan
from notbehind.shapes import check_beginning, check_rounds, check_size, check_width, inner_count, pieces_of
from notbehind.tables import Table, changed, raised
from notbehind.words import check_name, number_text, read_number


class Paper:
    """What is filed as a value paper of a table: the table, and the number with the chooser and the foe."""

    def __init__(self, table, told):
        self.table = table
        self.told = told


def made_table(width, rounds, *cells):
    """The Table with the cells."""
    return Table(width, rounds, cells)


def made_plan(width, rounds, *shares):
    """The Plan with the shares beginning by beginning."""
    check_size(shares, width * inner_count(width, rounds))
    return Plan(width, rounds, pieces_of(shares, width))


def made_even(width, rounds):
    """The Plan with even shares."""
    return even_plan(width, rounds)


def made_sure(width, row):
    """The Plan that is sure of the row."""
    return sure_plan(width, row)


def made_last(width, rounds):
    """The Plan that shares evenly first and is then sure of the outcome that came last."""
    return machine_plan(last_machine(width, [(1, width)] * width), rounds)


def made_misses(plan):
    """The table of misses."""
    return misses_table(plan)


def made_best(*plans):
    """The best table of the plans."""
    return best_table(plans)


def made_raise(table, number):
    """The Table with the number added."""
    return raised(table, number)


def made_change(table, row, number):
    """The Table with one cell replaced."""
    return changed(table, row, number)


def made_join(first, second):
    """The joined Table."""
    return joined(first, second)


def made_keeper(table):
    """The keeper."""
    return wide_keeper(table)


def made_breaker(table):
    """The breaker."""
    return wide_breaker(table)


def made_blend(first, second, number):
    """The Plan between two with the number as weight."""
    return blended(first, second, weight=number)


def made_follow(first, second):
    """The second plan behind the first one."""
    return first + second


def made_paper(table, number, chooser, foe):
    """The Paper, whether it is a value paper or not."""
    return Paper(table, (number, chooser, foe))


def made_game(plan, table, row):
    """The Game that has played the outcomes of the row."""
    game = Game(plan, table)
    check_beginning(row, plan.width, plan.rounds)
    game.play(row)
    return game


MAKERS = {
    "table": made_table,
    "plan": made_plan,
    "even": made_even,
    "sure": made_sure,
    "last": made_last,
    "misses": made_misses,
    "best": made_best,
    "raise": made_raise,
    "change": made_change,
    "join": made_join,
    "keeper": made_keeper,
    "breaker": made_breaker,
    "blend": made_blend,
    "follow": made_follow,
    "paper": made_paper,
    "game": made_game,
}


def made(words, things):
    """The thing that the words of a line make, where things has those that there are by name."""
    kinds = kinds_of(words)
    check_free_name(words[1], things)
    values = []
    for kind, word in zip(kinds[2:], words[2:]):
        values.append(value_of(kind, word, values, things))
    maker = MAKERS[words[0]]
    return maker(*values)


def check_free_name(name, things):
    """Raise BadName or TakenName unless a new thing may have the name."""
    check_name(name)
    if name in things:
        raise TakenName(name)


def thing_named(name, things):
    """The thing with the name."""
    check_name(name)
    if name not in things:
        raise UnknownName(name)
    return things[name]


def value_of(kind, word, values, things):
    """What a word stands for; values has what the words ahead of it stand for."""
    if kind == "TABLE" or kind == "PLAN":
        thing = thing_named(word, things)
        if sort_name(thing) != kind.lower():
            raise WrongKind(word)
        return thing
    if kind == "WIDTH":
        width = one_digit(word)
        check_width(width)
        return width
    if kind == "ROUNDS":
        rounds = one_digit(word)
        # The width stands just ahead of the rounds.
        check_rounds(values[-1], rounds)
        return rounds
    if kind == "ROW":
        return "" if word == "-" else word
    return read_number(word)


def one_digit(word):
    """The integer that a word tells in one digit."""
    digit = digit_of(word)
    if digit < 0:
        raise BadText(1)
    return digit


def sort_name(thing):
    """What a thing is: a table, a plan, a paper or a game."""
    if isinstance(thing, Table):
        return "table"
    if isinstance(thing, Plan):
        return "plan"
    if isinstance(thing, Paper):
        return "paper"
    return "game"


def answer_of(thing):
    """The answer of the line that made the thing."""
    if isinstance(thing, Table):
        return f"fold {number_text(wide_fold(thing))}"
    if isinstance(thing, Plan):
        return f"least {number_text(least_misses(thing))}"
    if isinstance(thing, Paper):
        return "right" if is_value_paper(thing.table, thing.told) else "wrong"
    return f"misses {number_text(thing.misses)} room {number_text(thing.room)}"
