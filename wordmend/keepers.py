"""Keepers: a book, and the machine of its words."""

from wordmend.machines import Machine
from wordmend.texts import book_of


class Keeper:
    """A book, and a machine that has just the book's words."""

    def __init__(self, text=""):
        self._book = book_of(text)
        self._machine = Machine(self._book.words())

    def put_class(self, name, kind, rules):
        """Put a class; tell the words that came and those that went."""
        self._book.put_class(name, kind, rules)
        return self._follow()

    def take_class(self, name):
        """Take a class; tell the words that came and those that went."""
        self._book.take_class(name)
        return self._follow()

    def put_stem(self, word, names):
        """Put a stem; tell the words that came and those that went."""
        self._book.put_stem(word, names)
        return self._follow()

    def take_stem(self, word):
        """Take a stem; tell the words that came and those that went."""
        self._book.take_stem(word)
        return self._follow()

    def text(self):
        """Write the book."""
        return self._book.text()

    def makings(self, word):
        """Tell all makings of a word."""
        return self._book.makings(word)

    def words(self):
        """Tell all words, rising."""
        return self._book.words()

    def machine(self):
        """Tell a machine alike."""
        return self._machine.copied()

    def _follow(self):
        """Let the machine have the book's words; tell those that came and those that went."""
        words = {word: True for word in self._book.words()}
        came = [word for word in words if not self._machine.has(word)]
        went = [word for word in self._machine.words() if word not in words]
        for word in came:
            self._machine.put(word)
        for word in went:
            self._machine.take(word)
        return came, went
