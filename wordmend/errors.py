"""The refusals of Wordmend."""


class MendError(ValueError):
    """Any refusal."""


class BadWord(MendError):
    """What is no word."""


class BadRule(MendError):
    """What is no condition, no rule, or no part of one."""


class BadText(MendError):
    """What is no book's text; line is the number of the row, from 0."""

    def __init__(self, line):
        self.line = line


class Twice(MendError):
    """What is there already."""


class NoStem(MendError):
    """A stem that is not there."""


class NoClass(MendError):
    """A class that is not there."""


class InUse(MendError):
    """A class that something still names."""


class TooMany(MendError):
    """What a book has no room for."""


class NoNumber(MendError):
    """A number that no word has."""


class NoWord(MendError):
    """A word that is not there."""


class BadPrice(MendError):
    """What is no price, or no number of words to tell."""


class NoPlace(MendError):
    """A place where nothing can be mended or taken back."""


class BadPattern(MendError):
    """What is no pattern, or no parting of a word."""
