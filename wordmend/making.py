"""Makings: the words that come of a stem by the rules of its classes."""

from wordmend.rules import BEGINNING, ENDING


class Band:
    """A class of endings or of beginnings."""

    def __init__(self, kind, rules):
        self.kind = kind
        self.rules = list(rules)


def used(bands, names, kind, word):
    """Use each rule of the classes of one kind on a word: tuples (WORD, (CLASS, NUMBER))."""
    found = []
    for name in names:
        if bands[name].kind == kind:
            for number, rule in enumerate(bands[name].rules):
                come = rule.use(word)
                if come is not None:
                    found.append((come, (name, number)))
    return found


def ended(bands, stem, names):
    """Use none, one or two endings on a stem: tuples (WORD, ENDINGS)."""
    found = [(stem, ())]
    for word, first in used(bands, names, ENDING, stem):
        found.append((word, (first,)))
        name, number = first
        further = bands[name].rules[number].further
        for longer, second in used(bands, further, ENDING, word):
            found.append((longer, (first, second)))
    return found


def order(row):
    """Tell by what a tuple (WORD, MAKING) is sorted."""
    word, (_, beginning, endings) = row
    # An empty tuple stands ahead of each pair, as None can't be compared with one.
    return word, endings, beginning or ()


def made(bands, stem, names):
    """Tell all makings of a stem with these classes: tuples (WORD, MAKING), sorted."""
    found = []
    for word, endings in ended(bands, stem, names):
        found.append((word, (stem, None, endings)))
        for longer, beginning in used(bands, names, BEGINNING, word):
            found.append((longer, (stem, beginning, endings)))
    return sorted(found, key=order)
