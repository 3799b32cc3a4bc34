"""Texts of fractions, names, and lines of words."""

from math import gcd

from notbehind.errors import BadName, BadText
from notbehind.ratios import checked

DIGITS = "0123456789"
SMALL_LETTERS = "abcdefghijklmnopqrstuvwxyz"
MOST_DIGITS = 4000
LONGEST_NAME = 12


def number_text(value):
    """The text of the fraction equal to the number."""
    above, below = checked(value)
    if below == 1:
        return str(above)
    return f"{above}/{below}"


def read_number(text):
    """The fraction whose text it is."""
    number = number_or_none(text)
    if number is None:
        raise BadText(1)
    return number


def number_or_none(text):
    """The fraction whose text it is, or None if it is the text of none."""
    top, slash, bottom = text.partition("/")
    if top == "-0" or not is_part_text(top.removeprefix("-")):
        return None
    if slash == "":
        return (int(top), 1)
    if not is_part_text(bottom):
        return None
    above = int(top)
    below = int(bottom)
    if below < 2 or gcd(above, below) != 1:
        return None
    return (above, below)


def is_part_text(text):
    """True for 1 to 4,000 digits without a leading zero: more of them are never converted."""
    if len(text) < 1 or len(text) > MOST_DIGITS:
        return False
    if text[0] == "0" and text != "0":
        return False
    return all([letter in DIGITS for letter in text])


def is_name(text):
    """True if the text is a name."""
    if len(text) < 1 or len(text) > LONGEST_NAME:
        return False
    return text[0] in SMALL_LETTERS and all([letter in SMALL_LETTERS + DIGITS for letter in text])


def check_name(text):
    """The text, if it is a name."""
    if not is_name(text):
        raise BadName(text)
    return text


def split_line(line):
    """The list of the words of a line."""
    if line == "":
        return []
    words = line.split(" ")
    # A space at an end, or two together, leave an empty word.
    if "" in words:
        raise BadText(1)
    return words


def join_words(words):
    """The words, joined by single spaces."""
    for word in words:
        if word == "" or " " in word:
            raise BadText(1)
    return " ".join(words)
