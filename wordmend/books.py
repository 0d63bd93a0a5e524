"""Books: stems, the classes that they have, and all makings of these."""

from wordmend.errors import BadRule, InUse, NoClass, NoStem, TooMany, Twice
from wordmend.making import Band, made
from wordmend.names import are_names, is_name
from wordmend.rules import ENDING, Beginning, Ending, is_kind, written
from wordmend.words import is_word, need_word

MOST_CLASSES = 8
MOST_RULES = 6
MOST_STEMS = 60
MOST_NAMES = 4
MOST_MAKINGS = 2000


def is_of_kind(rule, kind):
    """Tell whether a thing is a rule of a kind."""
    if kind == ENDING:
        return isinstance(rule, Ending)
    return isinstance(rule, Beginning)


def are_rules(thing, kind):
    """Tell whether a thing is a list of as many rules of a kind as a class may have."""
    if not isinstance(thing, list) or not 1 <= len(thing) <= MOST_RULES:
        return False
    return all([is_of_kind(rule, kind) for rule in thing])


def further_of(band):
    """Tell all further classes that a class names, one behind the other."""
    if band.kind != ENDING:
        return ""
    return "".join([rule.further for rule in band.rules])


def need_free(book, name):
    """Refuse a further class of a book that has this one, or no room for it."""
    names = book.classes()
    if name in names:
        raise Twice("this class is there")
    if len(names) >= MOST_CLASSES:
        raise TooMany("a book has at most eight classes")


def need_further(book, band):
    """Refuse a class that names a further one which can't be one in a book."""
    for name in further_of(band):
        behind = book.band(name)
        if behind.kind != ENDING or further_of(behind) != "":
            raise NoClass("a further class is one of endings without further ones")


class Book:
    """Stems and classes of endings and beginnings, by which words are made."""

    def __init__(self):
        # The classes stand in the order in which they were put.
        self._bands = {}
        self._told = {}
        # A class stays as it is while a stem needs it, so a stem's makings never change.
        self._made = {}

    def put_class(self, name, kind, rules):
        """Put a class."""
        if not is_name(name) or not is_kind(kind) or not are_rules(rules, kind):
            raise BadRule("a class has a name, a kind, and one to six rules of it")
        need_free(self, name)
        band = Band(kind, rules)
        need_further(self, band)
        self._bands[name] = band

    def take_class(self, name):
        """Take a class that nothing names."""
        self.band(name)
        naming = list(self._told.values()) + [further_of(band) for band in self._bands.values()]
        if any([name in names for names in naming]):
            raise InUse("a stem or a rule names this class")
        del self._bands[name]

    def put_stem(self, word, names):
        """Put a stem with its classes."""
        need_word(word)
        if not are_names(names, MOST_NAMES):
            raise BadRule("a stem has none to four unlike classes")
        if word in self._told:
            raise Twice("this stem is there")
        for name in names:
            self.band(name)
        if len(self._told) >= MOST_STEMS:
            raise TooMany("a book has at most sixty stems")
        rows = made(self._bands, word, names)
        many = sum([len(others) for others in self._made.values()])
        if many + len(rows) > MOST_MAKINGS:
            raise TooMany("a book has at most 2,000 makings")
        self._told[word] = names
        self._made[word] = rows

    def take_stem(self, word):
        """Take a stem."""
        self.names(word)
        del self._told[word]
        del self._made[word]

    def classes(self):
        """Tell the names of all classes, rising."""
        return sorted(self._bands)

    def band(self, name):
        """Tell a class by its name."""
        if not is_name(name) or name not in self._bands:
            raise NoClass("this class isn't there")
        kept = self._bands[name]
        return Band(kept.kind, kept.rules)

    def stems(self):
        """Tell all stems, rising."""
        return sorted(self._told)

    def names(self, word):
        """Tell the classes of a stem, as they were told."""
        if not is_word(word) or word not in self._told:
            raise NoStem("this stem isn't there")
        return self._told[word]

    def words(self):
        """Tell all words that are made, rising, each once."""
        return sorted({row[0] for rows in self._made.values() for row in rows})

    def makings(self, word):
        """Tell all makings of a word."""
        need_word(word)
        rows = [row for stem in sorted(self._made) for row in self._made[stem]]
        return [making for come, making in rows if come == word]

    def text(self):
        """Write the book."""
        rows = []
        for name, band in self._bands.items():
            rows.append(f"{band.kind} {name}")
            rows.extend([f"rule {rule.text()}" for rule in band.rules])
        for stem in sorted(self._told):
            rows.append("stem " + written([stem, self._told[stem]]))
        return "\n".join(rows)
