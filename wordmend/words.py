"""What a word is."""

from wordmend.errors import BadWord

LETTERS = "abcdefghijklmnopqrstuvwxyz"
MOST_LETTERS = 16


def are_letters(thing):
    """Tell whether a thing is a text of small letters alone; the empty one is."""
    # Strip stops at the first other sign from either end, so any such sign is left over.
    return isinstance(thing, str) and thing.strip(LETTERS) == ""


def is_word(thing):
    """Tell whether a thing is a word."""
    return are_letters(thing) and 1 <= len(thing) <= MOST_LETTERS


def need_word(thing):
    """Refuse what is no word."""
    if not is_word(thing):
        # The thing is not shown: some things have no text that Python can write.
        raise BadWord("a word is a text of 1 to 16 small letters")
