"""Books: things by name that are made and dropped by lines."""

from notbehind.errors import InUse, NotBehindError, NothingToTakeBack, WrongKind
from notbehind.games import Game
from notbehind.lines import parse_line, used_names
from notbehind.things import Paper, answer_of, made, sort_name, thing_named


class Stopped(NotBehindError):
    """A line of a script raised an error; the attribute tells its number among the lines of the text."""

    def __init__(self, line):
        super().__init__("a line that raised an error")
        self.line = line


class Book:
    """Things by name, and the script of the lines that were done."""

    def __init__(self):
        # No dict that the book has had is ever changed: each line that is done puts a new one in its place.
        self._things = {}
        self._lines = {}
        self._past = []

    def do(self, line):
        """Do a line and return its answer."""
        words = parse_line(line)
        name = words[1]
        if words[0] == "drop":
            self._check_dropped(name)
            self._put(line, without(self._things, name), without(self._lines, name))
            return "dropped"
        thing = made(words, self._things)
        answer = answer_of(thing)
        self._put(line, {**self._things, name: thing}, {**self._lines, name: line})
        return answer

    def _put(self, line, things, lines):
        """Let the book have these things, by a line that is done."""
        self._past.append((line, self._things, self._lines))
        self._things = things
        self._lines = lines

    def _check_dropped(self, name):
        """Raise the errors of dropping the thing with the name."""
        thing_named(name, self._things)
        for user in self._things:
            if name in used_names(self._lines[user]):
                raise InUse(name, user)

    def run(self, text):
        """Do the lines of a text in order and return the list of the answers."""
        before = len(self._past)
        answers = []
        for number, line in enumerate(text.split("\n"), start=1):
            try:
                answers.append(self.do(line))
            except NotBehindError:
                while len(self._past) > before:
                    self.undo()
                raise Stopped(number) from None
        return answers

    def names(self):
        """The list of the names in the order in which their things were made."""
        return list(self._things)

    def __len__(self):
        return len(self._things)

    def __iter__(self):
        return iter(self._things)

    def __contains__(self, text):
        return text in self._things

    def __call__(self, name):
        """The thing with the name; a game is a new one at each call."""
        thing = thing_named(name, self._things)
        if isinstance(thing, Game):
            return thing.twin()
        if isinstance(thing, Paper):
            return thing.told
        return thing

    def sort_of(self, name):
        """What the thing with the name is."""
        return sort_name(thing_named(name, self._things))

    def paper_table(self, name):
        """The Table of a paper."""
        thing = thing_named(name, self._things)
        if not isinstance(thing, Paper):
            raise WrongKind(name)
        return thing.table

    def line_of(self, name):
        """The line that made the thing with the name."""
        thing_named(name, self._things)
        return self._lines[name]

    def script(self):
        """The list of the lines that were done and not taken back, in order."""
        return [done[0] for done in self._past]

    def script_text(self):
        """The lines of the script, joined by newlines."""
        return "\n".join(self.script())

    def undo(self):
        """Take back the last line of the script and return it."""
        if len(self._past) == 0:
            raise NothingToTakeBack("no line is done")
        line, things, lines = self._past.pop()
        self._things = things
        self._lines = lines
        return line

    def twin(self):
        """A new Book with the same names, things and script."""
        book = Book()
        book._things = self._things
        book._lines = self._lines
        book._past = list(self._past)
        return book


def without(by_name, name):
    """A new dict that lacks the name."""
    return {other: by_name[other] for other in by_name if other != name}


def replayed(text):
    """A new Book that has run the text; an empty one for the empty text."""
    book = Book()
    if text != "":
        book.run(text)
    return book
