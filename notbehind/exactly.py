"""Tables of width 2 that are tables of misses, and papers that show whether a table is one."""

from notbehind.filling import exact_chooser_wide, exact_shares, is_even_mean, is_exact_wide, wide_bars
from notbehind.misses import even_misses, misses_table
from notbehind.ratios import checked, mean_of, minus
from notbehind.shapes import check_inner, check_two
from notbehind.tables import mean_behind, raised


def gap(table, beginning):
    """The gap at an inner beginning."""
    check_two(table)
    check_inner(beginning, 2, table.rounds)
    return minus(mean_behind(table, beginning + "0"), mean_behind(table, beginning + "1"))


def bars(table):
    """The list of all bars, in order."""
    check_two(table)
    return wide_bars(table)


def has_even_mean(table):
    """True if the mean of the table is half of its rounds."""
    check_two(table)
    return is_even_mean(table)


def exact_share(zero, one):
    """The share of outcome 1 where these are the means behind the two next beginnings."""
    return exact_shares([zero, one])[1]


def is_exact(table):
    """True if the table is the table of misses of a chooser."""
    check_two(table)
    return is_exact_wide(table)


def exact_chooser(table):
    """The chooser whose table of misses it is."""
    check_two(table)
    return exact_chooser_wide(table)


def raised_to_even(table):
    """The Table with one number added to each cell such that its mean is half of its rounds, and that number."""
    check_two(table)
    number = minus(even_misses(2, table.rounds), mean_of(table.cells))
    return (raised(table, number), number)


def past_misses(table, beginning):
    """The mean behind a beginning of any length less half of the rounds that are left behind it."""
    check_two(table)
    found = mean_behind(table, beginning)
    return minus(found, even_misses(2, table.rounds - len(beginning)))


def exact_paper(table):
    """What shows that the table is exact, or that it is not."""
    check_two(table)
    if not is_even_mean(table):
        return ("mean", mean_of(table.cells))
    barred = wide_bars(table)
    if barred != []:
        return ("barred", barred[0])
    return ("chooser", exact_chooser_wide(table))


def is_exact_paper(table, paper):
    """True if the paper shows whether the table is exact."""
    check_two(table)
    word, shown = paper
    if word == "chooser":
        return misses_table(shown) == table
    if word == "barred":
        return shown in wide_bars(table)
    number = checked(shown)
    return number == mean_of(table.cells) and not is_even_mean(table)
