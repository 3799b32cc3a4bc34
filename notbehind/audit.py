"""Looking over books: their papers, what they settle, their answers, and how two of them differ."""

from notbehind.book import Book
from notbehind.errors import NotBehindError, WrongKind
from notbehind.lines import used_names
from notbehind.papers import is_value_paper


def papers_in(book):
    """The list of the names of the papers in the book, in the order of names."""
    return [name for name in book.names() if book.sort_of(name) == "paper"]


def is_right(book, name):
    """True if the paper with the name is a value paper of its table."""
    return is_value_paper(book.paper_table(name), book(name))


def wrong_papers(book):
    """The list of the names of the papers that are no value papers of their tables."""
    return [name for name in papers_in(book) if not is_right(book, name)]


def audit(book):
    """The first of the names of wrong papers, or None."""
    wrong = wrong_papers(book)
    if wrong == []:
        return None
    return wrong[0]


def settled(book, name):
    """The number that the first value paper filed for the table with the name tells, or None."""
    if book.sort_of(name) != "table":
        raise WrongKind(name)
    for paper in papers_in(book):
        if name in used_names(book.line_of(paper)) and is_right(book, paper):
            return book(paper)[0]
    return None


def audit_script(text, answers):
    """The number of the first line of the text that does not give its answer, or None."""
    lines = [] if text == "" else text.split("\n")
    book = Book()
    for number, line in enumerate(lines, start=1):
        if number > len(answers) or answer_or_none(book, line) != answers[number - 1]:
            return number
    if len(answers) > len(lines):
        return len(lines) + 1
    return None


def answer_or_none(book, line):
    """The answer of the line, or None if it raises an error of the program."""
    try:
        return book.do(line)
    except NotBehindError:
        return None


def differences(first, second):
    """The list, ascending, of the names that do not stand for the same thing in both books."""
    names = first.names() + second.names()
    return [name for name in sorted(set(names)) if not is_same(first, second, name)]


def is_same(first, second, name):
    """True if the name stands for the same thing in both books."""
    if name not in first or name not in second:
        return False
    kind = first.sort_of(name)
    if second.sort_of(name) != kind:
        return False
    if kind == "game":
        return is_same_game(first(name), second(name))
    if kind == "paper" and first.paper_table(name) != second.paper_table(name):
        return False
    return first(name) == second(name)


def is_same_game(game, other):
    """True if two games, neither of them closed, stand alike."""
    return game.chooser == other.chooser and game.bounds == other.bounds and game.beginning == other.beginning
