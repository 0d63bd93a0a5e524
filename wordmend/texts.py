"""Texts of books."""

from wordmend.books import MOST_RULES, Book, need_free, need_further
from wordmend.errors import BadRule, BadText, MendError, NoClass, TooMany
from wordmend.making import Band
from wordmend.names import is_name
from wordmend.rules import is_kind, rule_of


class Reader:
    """A book, and the class at its end whose rules are still read."""

    def __init__(self):
        self.book = Book()
        self.name = ""
        self.kind = ""
        self.rules = []

    def close(self):
        """Put the class that is read; a book refuses one without a rule."""
        if self.name != "":
            self.book.put_class(self.name, self.kind, self.rules)
        self.name = ""

    def read_class(self, kind, name):
        """Read on behind the name of a kind."""
        self.close()
        if self.book.stems() != []:
            raise NoClass("classes stand ahead of stems")
        if not is_name(name):
            raise BadRule("a class is called by one great letter")
        need_free(self.book, name)
        self.name = name
        self.kind = kind
        self.rules = []

    def read_rule(self, told):
        """Read on behind the word rule."""
        if self.name == "":
            raise NoClass("a rule stands behind its class")
        if len(self.rules) >= MOST_RULES:
            raise TooMany("a class has at most six rules")
        rule = rule_of(self.kind, told)
        need_further(self.book, Band(self.kind, [rule]))
        self.rules.append(rule)

    def read_stem(self, told):
        """Read on behind the word stem."""
        self.close()
        word, _, names = told.partition(" ")
        if names == "":
            raise BadRule("no class is written as 0")
        self.book.put_stem(word, "" if names == "0" else names)

    def read(self, row):
        """Read the next row."""
        head, _, rest = row.partition(" ")
        if head == "rule":
            self.read_rule(rest)
        elif head == "stem":
            self.read_stem(rest)
        elif is_kind(head):
            self.read_class(head, rest)
        else:
            raise MendError("a row is a class, a rule or a stem")


def rows_of(text):
    """Part a text into its rows; an empty one has none."""
    if text == "":
        return []
    return text.split("\n")


def book_of(text):
    """Read a book's text."""
    if not isinstance(text, str):
        raise BadText(0)
    reader = Reader()
    rows = rows_of(text)
    for number, row in enumerate(rows):
        try:
            reader.read(row)
        except MendError:
            raise BadText(number) from None
    try:
        reader.close()
    except MendError:
        raise BadText(len(rows)) from None
    return reader.book
