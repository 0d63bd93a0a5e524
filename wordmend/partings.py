"""Partings: the places where words part, by patterns."""

from wordmend.errors import BadPattern
from wordmend.words import are_letters, need_word

FIGURES = "123456789"
MOST_PATTERNS = 200
MOST_LETTERS_OF_ONE = 6
# A word parts at least so many letters from its beginning and from its end.
LEAST_AT_ENDS = 2


def read_figures(told):
    """Part a text into its other signs and the figures ahead of each and behind the last.

    Where no figure stands 0 is told.
    """
    signs = ""
    figures = [0]
    for sign in told:
        if sign not in FIGURES:
            signs += sign
            figures.append(0)
        elif figures[-1] == 0:
            figures[-1] = int(sign)
        else:
            raise BadPattern("at most one figure stands at each place")
    return signs, figures


class Pattern:
    """Some letters, and figures between them, that tell where a word may part."""

    def __init__(self, told):
        if not isinstance(told, str):
            raise BadPattern("a pattern is a text")
        signs, figures = read_figures(told)
        letters = signs.removeprefix(".").removesuffix(".")
        if not are_letters(letters) or not 1 <= len(letters) <= MOST_LETTERS_OF_ONE:
            raise BadPattern("a pattern has 1 to 6 small letters, and points at its ends alone")
        if max(figures) == 0:
            raise BadPattern("a pattern has a figure")
        self.signs = signs
        self.figures = figures

    def count_in(self, ended, best):
        """Count in a word between two points: raise best, the figures that count so far."""
        many = len(self.signs)
        for place in range(len(ended) - many + 1):
            if ended[place:place + many] == self.signs:
                for step, figure in enumerate(self.figures):
                    best[place + step] = max(best[place + step], figure)


class Parter:
    """Patterns, and words that are told to part in their own way."""

    def __init__(self, patterns):
        if not isinstance(patterns, list) or len(patterns) > MOST_PATTERNS:
            raise BadPattern("patterns are a list of at most 200")
        self._patterns = [Pattern(told) for told in patterns]
        self._told = {}

    def put(self, word, parts):
        """Tell a word how it parts."""
        need_word(word)
        if not isinstance(parts, list) or not all([isinstance(part, str) for part in parts]):
            raise BadPattern("parts are a list of texts")
        if "" in parts or "".join(parts) != word:
            raise BadPattern("parts are a word in pieces of at least one letter")
        self._told[word] = list(parts)

    def counts(self, word):
        """Tell the numbers that count between the letters of a word, by the patterns alone."""
        need_word(word)
        ended = "." + word + "."
        best = [0] * (len(ended) + 1)
        for pattern in self._patterns:
            pattern.count_in(ended, best)
        # The first two and the last two are not between letters.
        return best[2:-2]

    def parts(self, word):
        """Tell the pieces of a word."""
        need_word(word)
        if word in self._told:
            return list(self._told[word])
        found = []
        begin = 0
        for place, number in enumerate(self.counts(word), 1):
            if number % 2 == 1 and LEAST_AT_ENDS <= place <= len(word) - LEAST_AT_ENDS:
                found.append(word[begin:place])
                begin = place
        return found + [word[begin:]]
