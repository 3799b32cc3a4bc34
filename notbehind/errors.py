"""All errors that the program raises."""


class NotBehindError(ValueError):
    """The base class of all errors of the program."""


class BadNumber(NotBehindError):
    """A value is not a number."""


class DivisionByZero(NotBehindError):
    """A number is divided by zero."""


class BadCount(NotBehindError):
    """An integer lies outside its limits, or is a bool."""

    def __init__(self, found, low, high):
        super().__init__("a count outside its limits")
        self.found = found
        self.low = low
        self.high = high


class BadSize(NotBehindError):
    """A list has a wrong number of items."""

    def __init__(self, found, due):
        super().__init__("a list with a wrong number of items")
        self.found = found
        self.due = due


class BadName(NotBehindError):
    """A text is not a name."""

    def __init__(self, found):
        super().__init__("a text that is no name")
        self.found = found


class BadText(NotBehindError):
    """A text cannot be read; the attribute tells its first wrong line."""

    def __init__(self, line):
        super().__init__("a text with a wrong line")
        self.line = line


class BadRow(NotBehindError):
    """A text is not the row, beginning, outcome, order or the like that is asked for."""

    def __init__(self, found):
        super().__init__("a text that is not what is asked for")
        self.found = found


class BadShare(NotBehindError):
    """Numbers are not a sharing at the place that the attribute tells."""

    def __init__(self, at):
        super().__init__("numbers that are no sharing")
        self.at = at


class BadWeight(NotBehindError):
    """A weight, a rate or a pick lies below 0 or above 1."""


class Mismatch(NotBehindError):
    """Two things do not fit together."""


class NoHelper(NotBehindError):
    """A list of helpers, sleepers or stretches is empty, or would be."""


class NotExact(NotBehindError):
    """A table is not the table of misses of a chooser."""

    def __init__(self, beginning):
        super().__init__("a table that is not exact")
        self.beginning = beginning


class Lacking(NotBehindError):
    """Bounds are too low by the amount that the attribute tells."""

    def __init__(self, amount):
        super().__init__("bounds that are too low")
        self.amount = amount


class GameOver(NotBehindError):
    """A game is closed, or has not the rounds left that a call needs."""


class NothingToTakeBack(NotBehindError):
    """There is no round, change or line to take back."""


class UnknownName(NotBehindError):
    """No thing has the name."""

    def __init__(self, name):
        super().__init__("a name that no thing has")
        self.name = name


class TakenName(NotBehindError):
    """A thing has the name already."""

    def __init__(self, name):
        super().__init__("a name that a thing has")
        self.name = name


class WrongKind(NotBehindError):
    """The thing with the name is of another kind."""

    def __init__(self, name):
        super().__init__("a name of a thing of another kind")
        self.name = name


class InUse(NotBehindError):
    """A thing cannot be dropped while the user uses it."""

    def __init__(self, name, user):
        super().__init__("a name of a thing in use")
        self.name = name
        self.user = user
