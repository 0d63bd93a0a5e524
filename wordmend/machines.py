"""Machines: words, kept as the states of the least machine that has them."""

from wordmend.words import is_word, need_word


class State:
    """A state of machines. It stays as it was made, so that several may lead to it."""

    def __init__(self, is_end, leads):
        self.is_end = is_end
        self.leads = leads
        # How many words are behind this state, an empty rest counted where it is an end.
        self.worth = sum([behind.worth for behind in leads.values()]) + (1 if is_end else 0)


def key_of(is_end, leads):
    """Tell what no two states of one machine have alike, of leads that rise."""
    return is_end, tuple(leads.items())


def turned(leads, letter, state):
    """Tell leads alike, but this letter leads to this state, or nowhere if no word is behind."""
    others = {sign: leads[sign] for sign in leads if sign != letter}
    if state.worth > 0:
        others[letter] = state
    return {sign: others[sign] for sign in sorted(others)}


def in_order(first):
    """Tell all states that are come to from a first one, in the order of their numbers."""
    seen = {}
    waiting = [first]
    while waiting:
        state = waiting.pop()
        if state not in seen:
            seen[state] = True
            # The last one that waits is gone to first, with all that is behind it.
            waiting.extend(list(state.leads.values())[::-1])
    return list(seen)


class Machine:
    """The least machine of some words."""

    def __init__(self, words=None):
        # The state behind which no word is; the machine without words has it alone.
        self._nothing = State(False, {})
        # Each state by its key: no other one alike is made, and so the machine is the least one.
        self._states = {key_of(False, {}): self._nothing}
        # How often each state is needed: by leads, as the first one, and nothing always.
        self._needs = {self._nothing: 2}
        self.first = self._nothing
        if words is not None:
            for word in words:
                self.put(word)

    def put(self, word):
        """Put a word; tell whether it wasn't there."""
        need_word(word)
        if self.has(word):
            return False
        self._change(word, True)
        return True

    def take(self, word):
        """Take a word; tell whether it was there."""
        need_word(word)
        if not self.has(word):
            return False
        self._change(word, False)
        return True

    def has(self, word):
        """Tell whether a word is there."""
        return is_word(word) and self._way(word)[-1].is_end

    def many(self):
        """Tell how many words there are."""
        return self.first.worth

    def words(self):
        """Tell all words, rising."""
        found = []
        waiting = [("", self.first)]
        while waiting:
            word, state = waiting.pop()
            if state.is_end:
                found.append(word)
            for letter in sorted(state.leads, reverse=True):
                waiting.append((word + letter, state.leads[letter]))
        return found

    def rows(self):
        """Tell the states: tuples (IS_END, LEADS), leads a tuple of pairs (LETTER, NUMBER)."""
        states = in_order(self.first)
        numbers = {state: number for number, state in enumerate(states)}
        rows = []
        for state in states:
            leads = [(letter, numbers[behind]) for letter, behind in state.leads.items()]
            rows.append((state.is_end, tuple(leads)))
        return rows

    def copied(self):
        """Tell another machine alike."""
        other = Machine()
        # States stay as they are made, so both may go on from the same ones.
        other._nothing = self._nothing
        other._states = {key: self._states[key] for key in self._states}
        other._needs = {state: self._needs[state] for state in self._needs}
        other.first = self.first
        return other

    def _way(self, word):
        """Tell the states on the way of a word, the first one and nothing too."""
        way = [self.first]
        for letter in word:
            way.append(way[-1].leads.get(letter, self._nothing))
        return way

    def _state(self, is_end, leads):
        """Tell the state that is so; it is made where it isn't there."""
        key = key_of(is_end, leads)
        if key not in self._states:
            state = State(is_end, leads)
            self._states[key] = state
            self._needs[state] = 0
            for behind in leads.values():
                self._needs[behind] += 1
        return self._states[key]

    def _change(self, word, is_end):
        """Make the state behind a word an end or none, by other states on its way."""
        way = self._way(word)
        state = self._state(is_end, way[-1].leads)
        for place in reversed(range(len(word))):
            state = self._state(way[place].is_end, turned(way[place].leads, word[place], state))
        before = self.first
        self._needs[state] += 1
        self.first = state
        self._leave(before)

    def _leave(self, state):
        """Need a state once less; forget it, and what it alone leads to, where nothing needs it."""
        waiting = [state]
        while waiting:
            left = waiting.pop()
            self._needs[left] -= 1
            if self._needs[left] == 0:
                del self._needs[left]
                del self._states[key_of(left.is_end, left.leads)]
                waiting.extend(list(left.leads.values()))
