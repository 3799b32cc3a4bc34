"""Lines that change a book: their commands, and what each of their words stands for."""

from notbehind.errors import BadText
from notbehind.words import split_line

# A word in capitals stands for what it says; `..` stands for any number of words like the one ahead of it, also none.
FORMS = (
    "table NAME WIDTH ROUNDS CELL ..",
    "plan NAME WIDTH ROUNDS SHARE ..",
    "even NAME WIDTH ROUNDS",
    "sure NAME WIDTH ROW",
    "last NAME WIDTH ROUNDS",
    "misses NAME PLAN",
    "best NAME PLAN ..",
    "raise NAME TABLE NUMBER",
    "change NAME TABLE ROW NUMBER",
    "join NAME TABLE TABLE",
    "keeper NAME TABLE",
    "breaker NAME TABLE",
    "blend NAME PLAN PLAN NUMBER",
    "follow NAME PLAN PLAN",
    "paper NAME TABLE NUMBER PLAN PLAN",
    "game NAME PLAN TABLE ROW",
    "drop NAME",
)
ANY_NUMBER = ".."


def commands():
    """The list of the commands in their order."""
    return [split_line(form)[0] for form in FORMS]


def form_of(command):
    """The list of the words of the command's form; the empty list if it is no command."""
    for form in FORMS:
        kinds = split_line(form)
        if kinds[0] == command:
            return kinds
    return []


def fitted(kinds, many):
    """The words of a form, with the last one but `..` as often as makes them so many, if that can be."""
    if kinds[-1] == ANY_NUMBER:
        more = many - len(kinds) + 2
        return kinds[:-2] + [kinds[-2]] * more
    return kinds


def kinds_of(words):
    """What each word of a line stands for, the command first; None if the words are of no line."""
    if words == []:
        return None
    kinds = form_of(words[0])
    if kinds == []:
        return None
    found = fitted(kinds, len(words))
    if len(found) != len(words):
        return None
    return found


def parse_line(line):
    """The list of the words of a line."""
    words = split_line(line)
    if kinds_of(words) is None:
        raise BadText(1)
    return words


def used_names(line):
    """The list of the words of a line that stand for a table or a plan, in order."""
    words = parse_line(line)
    return [word for word, kind in zip(words, kinds_of(words)) if kind == "TABLE" or kind == "PLAN"]
