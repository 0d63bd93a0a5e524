"""Prices, and mendings of a word to another one by them."""

from wordmend.errors import BadPrice
from wordmend.wholes import is_whole
from wordmend.words import are_letters

MOST_PRICE = 1000000000


def is_price(thing):
    """Tell whether a thing is a price."""
    return is_whole(thing, 1, MOST_PRICE)


def is_letter(thing):
    """Tell whether a thing is one small letter."""
    return are_letters(thing) and len(thing) == 1


def is_pair(thing):
    """Tell whether a thing is a tuple of two unlike small letters."""
    if not isinstance(thing, tuple) or len(thing) != 2:
        return False
    one, other = thing
    return is_letter(one) and is_letter(other) and one != other


def are_pairs(thing):
    """Tell whether a thing is a dict from pairs to prices."""
    if not isinstance(thing, dict):
        return False
    return all([is_pair(pair) and is_price(price) for pair, price in thing.items()])


def is_turn(one, other):
    """Tell whether two texts of at most two letters are one turn of unlike letters."""
    return one == other[::-1] and one != other


class Prices:
    """What each piece of a mending costs."""

    def __init__(self, adding, losing, exchange, turning, pairs=None):
        if not all([is_price(price) for price in (adding, losing, exchange, turning)]):
            raise BadPrice("a price is a whole number from 1 to 10 ** 9")
        if pairs is not None and not are_pairs(pairs):
            raise BadPrice("pairs are a dict from two unlike small letters to a price")
        self.adding = adding
        self.losing = losing
        self.exchange = exchange
        self.turning = turning
        self._pairs = {} if pairs is None else {pair: pairs[pair] for pair in pairs}

    def pair(self, one, other):
        """Tell the price of another letter instead of one."""
        return self._pairs.get((one, other), self.exchange)


def matched(prices, one, other):
    """Tell the piece, and its price, in which a letter of each word stands."""
    if one == other:
        return ("keep", one), 0
    return ("other", one, other), prices.pair(one, other)


def pieces_ahead(prices, one, other):
    """Tell how a mending of two texts can begin: tuples (PIECE, PRICE, LOST, GOT).

    So many letters of the first text are lost to the piece, so many of the second one it gets.
    """
    found = []
    if one != "":
        found.append((("lose", one[0]), prices.losing, 1, 0))
    if other != "":
        found.append((("put", other[0]), prices.adding, 0, 1))
    if one != "" and other != "":
        piece, price = matched(prices, one[0], other[0])
        found.append((piece, price, 1, 1))
    if is_turn(one[:2], other[:2]):
        found.append((("turn", one[0], one[1]), prices.turning, 2, 2))
    return found


def least(prices, one, other):
    """Tell the least price of a mending, and the least list of pieces of that price."""
    best = {}
    for at in reversed(range(len(one) + 1)):
        for to in reversed(range(len(other) + 1)):
            found = []
            for piece, price, lost, got in pieces_ahead(prices, one[at:], other[to:]):
                more, behind = best[at + lost, to + got]
                found.append((price + more, [piece] + behind))
            best[at, to] = min(found, default=(0, []))
    return best[0, 0]


def price_of(prices, one, other):
    """Tell the least price of a mending of two words."""
    return least(prices, one, other)[0]


def mending(prices, one, other):
    """Tell the pieces of a mending of least price, of several the least list."""
    return least(prices, one, other)[1]
