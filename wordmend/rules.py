"""Rules: how a word is made of another one, at its end or at its beginning."""

from wordmend.conditions import Condition
from wordmend.errors import BadRule
from wordmend.names import are_names
from wordmend.words import MOST_LETTERS, are_letters

ENDING = "ending"
BEGINNING = "beginning"
MOST_CUT = 4
MOST_ADDED = 6
MOST_FURTHER = 3


def is_kind(thing):
    """Tell whether a thing is a kind of rules."""
    return isinstance(thing, str) and thing in (ENDING, BEGINNING)


def need_letters(thing, most):
    """Refuse what is no text of none to so many small letters."""
    if not are_letters(thing) or len(thing) > most:
        raise BadRule("a cut has none to four small letters, a put none to six")


def need_further_names(thing):
    """Refuse what is no text of further classes."""
    # Unlike names are rising just where sorting leaves them as they are.
    if not are_names(thing, MOST_FURTHER) or "".join(sorted(thing)) != thing:
        raise BadRule("further classes are none to three unlike great letters, rising")


def short_enough(letters):
    """Tell what a rule makes, or None where it has too many letters to be a word."""
    if len(letters) > MOST_LETTERS:
        return None
    return letters


def written(parts):
    """Write texts with one blank between, and 0 for each that is empty."""
    return " ".join([part or "0" for part in parts])


class Rule:
    """What endings and beginnings have; used alone it makes nothing."""

    def __init__(self, cut, added, condition):
        need_letters(cut, MOST_CUT)
        need_letters(added, MOST_ADDED)
        if cut == added:
            raise BadRule("a put is other than its cut")
        self.cut = cut
        self.added = added
        self.condition = Condition(condition)

    def use(self, word):
        """Tell None: a rule of no kind has no place in a word."""
        return None

    def text(self):
        """Write the rule."""
        return written([self.cut, self.added, self.condition.told])


class Ending(Rule):
    """A rule for the end of a word."""

    def __init__(self, cut, added, condition, further=""):
        Rule.__init__(self, cut, added, condition)
        need_further_names(further)
        self.further = further

    def use(self, word):
        """Tell what is made of a word, or None."""
        stays = len(word) - len(self.cut)
        if stays < 1 or not word.endswith(self.cut) or not self.condition.ends(word):
            return None
        return short_enough(word[:stays] + self.added)

    def text(self):
        """Write the rule."""
        return written([self.cut, self.added, self.condition.told, self.further])


class Beginning(Rule):
    """A rule for the beginning of a word."""

    def __init__(self, cut, added, condition):
        Rule.__init__(self, cut, added, condition)

    def use(self, word):
        """Tell what is made of a word, or None."""
        falls = len(self.cut)
        if falls >= len(word) or not word.startswith(self.cut) or not self.condition.begins(word):
            return None
        return short_enough(self.added + word[falls:])

    def text(self):
        """Write the rule."""
        return written([self.cut, self.added, self.condition.told])


def rule_of(kind, told):
    """Make the rule of a kind that writes itself as told."""
    parts = ["" if part == "0" else part for part in told.split(" ")]
    if kind == ENDING and len(parts) == 4:
        rule = Ending(*parts)
    elif kind == BEGINNING and len(parts) == 3:
        rule = Beginning(*parts)
    else:
        raise BadRule("an ending is written with four parts, a beginning with three")
    # A part of no sign at all would pass for none, which is written as 0 alone.
    if rule.text() != told:
        raise BadRule("a part that is none is written as 0")
    return rule
