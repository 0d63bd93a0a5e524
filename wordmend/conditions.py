"""Conditions: which letters a word may begin or end with."""

from wordmend.errors import BadRule
from wordmend.words import LETTERS, are_letters

MOST_PLACES = 3
MOST_IN_BRACKETS = 8


def all_but(letters):
    """Tell all letters but these."""
    return "".join([letter for letter in LETTERS if letter not in letters])


def is_bracketed(letters):
    """Tell whether a text may stand in brackets, without the sign for all others."""
    if not are_letters(letters) or not 1 <= len(letters) <= MOST_IN_BRACKETS:
        return False
    return len(set(letters)) == len(letters)


def read_brackets(told, begin):
    """Read the place whose bracket stands at begin, as read_place does."""
    close = told.find("]", begin)
    if close < 0:
        raise BadRule("a bracket is open")
    inner = told[begin + 1:close]
    letters = inner.removeprefix("^")
    if not is_bracketed(letters):
        raise BadRule("one to eight unlike small letters stand in brackets")
    if inner.startswith("^"):
        return all_but(letters), close + 1
    return letters, close + 1


def read_place(told, begin):
    """Tell which letters the place at begin lets, and where the next place begins."""
    sign = told[begin]
    if sign == "[":
        return read_brackets(told, begin)
    if sign == ".":
        return LETTERS, begin + 1
    if not are_letters(sign):
        raise BadRule("a place is a small letter, a point or brackets")
    return sign, begin + 1


def read_places(told):
    """Tell, place by place, which letters a condition lets."""
    if not isinstance(told, str):
        raise BadRule("a condition is a text")
    places = []
    begin = 0
    while begin < len(told):
        if len(places) == MOST_PLACES:
            raise BadRule("a condition has at most three places")
        letters, begin = read_place(told, begin)
        places.append(letters)
    return places


def are_let(places, letters):
    """Tell whether each place lets its letter, of as many letters as places."""
    return all([letter in let for let, letter in zip(places, letters)])


class Condition:
    """What the last letters of a word, or its first ones, have to be."""

    def __init__(self, told):
        self.places = read_places(told)
        self.told = told

    def ends(self, word):
        """Tell whether a word's last letters fit."""
        begin = len(word) - len(self.places)
        return begin >= 0 and are_let(self.places, word[begin:])

    def begins(self, word):
        """Tell whether a word's first letters fit."""
        many = len(self.places)
        return len(word) >= many and are_let(self.places, word[:many])
