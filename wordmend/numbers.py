"""Numbers of words: a machine's words are numbered from 0, rising."""

from wordmend.errors import NoNumber, NoWord
from wordmend.wholes import is_whole


def ahead(state, letter):
    """Tell how many words behind a state come ahead of those by a letter."""
    before = [state.leads[other].worth for other in state.leads if other < letter]
    return sum(before) + (1 if state.is_end else 0)


def number_of(machine, word):
    """Tell the number of a word."""
    if not machine.has(word):
        raise NoWord("this word isn't there")
    # Of all words that begin with it the word itself is the first.
    return begun(machine, word)[0]


def word_at(machine, number):
    """Tell the word that has a number."""
    if not is_whole(number, 0, machine.many() - 1):
        raise NoNumber("no word has this number")
    word = ""
    state = machine.first
    left = number
    while left > 0 or not state.is_end:
        letter = max([other for other in state.leads if ahead(state, other) <= left])
        left -= ahead(state, letter)
        word += letter
        state = state.leads[letter]
    return word


def begun(machine, text):
    """Tell the first number and how many words begin with a text."""
    first = 0
    state = machine.first
    for letter in text:
        if letter not in state.leads:
            return 0, 0
        first += ahead(state, letter)
        state = state.leads[letter]
    return first, state.worth
