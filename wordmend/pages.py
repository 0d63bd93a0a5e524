"""Pages: texts, their wrong words, and mends of these."""

from wordmend.errors import NoPlace
from wordmend.wholes import is_whole
from wordmend.words import LETTERS, need_word


def stretches(text):
    """Tell the stretches of letters of a text: tuples (BEGIN, BEHIND, TEXT), by places."""
    found = []
    begin = 0
    # A blank behind the text ends a stretch that goes up to its end.
    for place, sign in enumerate(text + " "):
        if sign.lower() not in LETTERS:
            if begin < place:
                found.append((begin, place, text[begin:place]))
            begin = place + 1
    return found


def is_written_well(stretch):
    """Tell whether the great letters of a stretch are none, its first one alone, or all."""
    small = stretch.lower()
    return stretch in (small, small.capitalize(), small.upper())


def written_like(stretch, word):
    """Tell a word with great letters where a stretch has them."""
    # A single great letter is a great first one, for it doesn't tell whether all are to be.
    if len(stretch) >= 2 and stretch.isupper():
        return word.upper()
    if stretch[0].isupper():
        return word.capitalize()
    return word


class Page:
    """A text, and a machine that tells which of its words are right."""

    def __init__(self, machine, text):
        # The machine is the asker's, who goes on changing it: nothing that it tells is kept.
        self._machine = machine
        self._text = text
        self._own = {}
        # What each mend put: its place, the word as it stands there, and what stood there before.
        self._mends = []

    def text(self):
        """Tell the text as it is."""
        return self._text

    def wrong(self):
        """Tell the wrong stretches: tuples (BEGIN, BEHIND, TEXT), by places."""
        return [row for row in stretches(self._text) if not self._is_right(row[2])]

    def own(self, word):
        """Let a word be right from now on."""
        need_word(word)
        self._own[word] = True

    def mend(self, place, word):
        """Put a word where a wrong stretch begins."""
        need_word(word)
        stretch = self._stretch_at(place)
        put = written_like(stretch, word)
        self._replace(place, stretch, put)
        self._mends.append((place, put, stretch))

    def back(self):
        """Take the last mend back."""
        if self._mends == []:
            raise NoPlace("there is no mend to take back")
        place, put, stretch = self._mends.pop()
        self._replace(place, put, stretch)

    def _is_right(self, stretch):
        """Tell whether a stretch is right."""
        small = stretch.lower()
        is_known = small in self._own or self._machine.has(small)
        return is_known and is_written_well(stretch)

    def _stretch_at(self, place):
        """Tell the wrong stretch that begins at a place."""
        if is_whole(place, 0):
            for begin, _, stretch in self.wrong():
                if begin == place:
                    return stretch
        raise NoPlace("no wrong word begins here")

    def _replace(self, place, old, new):
        """Put a text where another one stands."""
        self._text = self._text[:place] + new + self._text[place + len(old):]
