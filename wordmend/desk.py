"""A desk: lines, and what is answered to each."""

from wordmend.errors import BadPrice, BadRule, BadWord, InUse, NoClass
from wordmend.errors import NoNumber, NoStem, NoWord, TooMany, Twice
from wordmend.keepers import Keeper
from wordmend.nearing import near, nearest
from wordmend.numbers import number_of, word_at
from wordmend.pages import Page
from wordmend.prices import Prices
from wordmend.rules import rule_of

FIGURES = "0123456789"
MOST_FIGURES = 12
NO_LINE = "no line"


def number_in(text):
    """Read a number; None where a text writes none, which each function refuses in its order."""
    if text.strip(FIGURES) != "" or not 1 <= len(text) <= MOST_FIGURES:
        return None
    if text.startswith("0") and text != "0":
        return None
    return int(text)


def changes(told):
    """Write the words that came and those that went."""
    came, went = told
    return " ".join([f"+{word}" for word in came] + [f"-{word}" for word in went]) or "nothing"


def priced(rows):
    """Write words with their prices."""
    return " ; ".join([f"{price} {word}" for price, word in rows]) or "nothing"


def uses(pairs):
    """Write the rules that a making uses at one end of a word."""
    return " ".join([f"{name}{number}" for name, number in pairs]) or "-"


def ways(makings):
    """Write makings."""
    rows = []
    for stem, beginning, endings in makings:
        beginnings = [] if beginning is None else [beginning]
        rows.append(f"{stem} {uses(beginnings)} {uses(endings)}")
    return " ; ".join(rows) or "nothing"


class Desk:
    """A keeper and prices, asked by lines."""

    def __init__(self):
        self._keeper = Keeper()
        self._prices = Prices(2, 2, 3, 2)

    def say(self, line):
        """Answer a line."""
        try:
            return self._answer(line)
        except BadWord:
            return "bad word"
        except BadRule:
            return "bad rule"
        except Twice:
            return "twice"
        except NoStem:
            return "no stem"
        except NoClass:
            return "no class"
        except InUse:
            return "in use"
        except TooMany:
            return "too many"
        except (NoNumber, NoWord):
            return "no number"
        except BadPrice:
            return "bad price"

    def _answer(self, line):
        """Answer a line, if nothing is refused."""
        if not isinstance(line, str) or "\n" in line:
            return NO_LINE
        if line.startswith("page "):
            return self._page(line.removeprefix("page "))
        words = line.split(" ")
        # A blank too many would pass for a word without a sign.
        if "" in words:
            return NO_LINE
        return self._deed(words)

    def _deed(self, words):
        """Do what the words of a line say."""
        match words:
            case ["stem", word, names]:
                return changes(self._keeper.put_stem(word, "" if names == "0" else names))
            case ["gone", word]:
                return changes(self._keeper.take_stem(word))
            case ["class", kind, name, first, *rest]:
                return changes(self._put_class(kind, name, " ".join([first] + rest)))
            case ["unclass", name]:
                return changes(self._keeper.take_class(name))
            case ["how", word]:
                return ways(self._keeper.makings(word))
            case ["number", word]:
                return str(number_of(self._keeper.machine(), word))
            case ["word", number]:
                return word_at(self._keeper.machine(), number_in(number))
            case ["near", word, most]:
                return self._near(word, most)
            case ["nearest", word, many]:
                return self._nearest(word, many)
            case ["prices", adding, losing, exchange, turning]:
                return self._put_prices([adding, losing, exchange, turning])
            case _:
                return NO_LINE

    def _near(self, word, most):
        """Tell the words that cost at most so much."""
        machine = self._keeper.machine()
        return priced(near(machine, self._prices, word, number_in(most)))

    def _nearest(self, word, many):
        """Tell the first so many words."""
        machine = self._keeper.machine()
        return priced(nearest(machine, self._prices, word, number_in(many)))

    def _put_class(self, kind, name, told):
        """Put a class whose rules are told with a comma and a blank between."""
        rules = [rule_of(kind, part) for part in told.split(", ")]
        return self._keeper.put_class(name, kind, rules)

    def _put_prices(self, told):
        """Take other prices from now on."""
        numbers = [number_in(text) for text in told]
        self._prices = Prices(*numbers)
        return "done"

    def _page(self, text):
        """Tell what is wrong in a text."""
        rows = Page(self._keeper.machine(), text).wrong()
        return " ; ".join([f"{begin} {stretch}" for begin, _, stretch in rows]) or "right"
