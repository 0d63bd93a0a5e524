"""Nearest words of a machine, by prices."""

from heapq import heappop, heappush

from wordmend.errors import BadPrice
from wordmend.prices import is_turn, matched
from wordmend.wholes import is_whole
from wordmend.words import MOST_LETTERS, need_word

MOST_NEAREST = 50


def next_row(prices, word, text, old, older):
    """Tell the least prices of all beginnings of a word to a text.

    A row begins with the price of no letter. The old row is that to the text without
    its last letter, the older one that without two.
    """
    row = [old[0] + prices.adding]
    for place, letter in enumerate(word):
        _, price = matched(prices, letter, text[-1])
        best = min(old[place + 1] + prices.adding, row[place] + prices.losing, old[place] + price)
        if place > 0 and is_turn(word[place - 1:place + 1], text[-2:]):
            best = min(best, older[place - 1] + prices.turning)
        row.append(best)
    return row


class Search:
    """A search through a machine for the words that are nearest to a word."""

    def __init__(self, machine, prices, word, most):
        self._prices = prices
        self._word = word
        self._most = most
        row = [prices.losing * many for many in range(len(word) + 1)]
        # Each text that is to be gone on from, with its state and its two last rows.
        self._reached = {"": (machine.first, row, [])}
        # A whole word waits with its price, another text with what all words behind it cost at
        # least. As it stands ahead of these words in Python's order, too, none is come to late.
        self._queue = [(0, "", False)]

    def _go_on(self, text):
        """Go on from a text by each letter, where it doesn't cost too much."""
        state, old, older = self._reached.pop(text)
        for letter, behind in state.leads.items():
            longer = text + letter
            row = next_row(self._prices, self._word, longer, old, older)
            # The next piece begins at some price of this row, or turns this letter with the next.
            price = min(min(row), min(old) + self._prices.turning)
            if price <= self._most:
                self._reached[longer] = (behind, row, old)
                heappush(self._queue, (price, longer, False))
            if behind.is_end and row[-1] <= self._most:
                heappush(self._queue, (row[-1], longer, True))

    def found(self, many):
        """Tell the first so many words: tuples (PRICE, WORD), rising."""
        rows = []
        while self._queue and len(rows) < many:
            price, text, is_there = heappop(self._queue)
            if is_there:
                rows.append((price, text))
            else:
                self._go_on(text)
        return rows


def near(machine, prices, word, most):
    """Tell all words that cost at most so much."""
    need_word(word)
    if not is_whole(most, 0):
        raise BadPrice("a price is a whole number from 0")
    return Search(machine, prices, word, most).found(machine.many())


def nearest(machine, prices, word, many):
    """Tell the first so many of all words."""
    need_word(word)
    if not is_whole(many, 1, MOST_NEAREST):
        raise BadPrice("the nearest words are 1 to 50")
    # No word costs more than to lose all letters and to put as many as a word can have.
    most = prices.losing * len(word) + prices.adding * MOST_LETTERS
    return Search(machine, prices, word, most).found(many)
