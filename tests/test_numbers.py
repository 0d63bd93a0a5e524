import itertools
import random
import unittest

from tests.things import OTHER_SIGNS, no_texts, no_wholes
from wordmend import numbers
from wordmend.errors import MendError, NoNumber, NoWord
from wordmend.machines import Machine
from wordmend.numbers import begun, number_of, word_at

TALK = ["talk", "talked", "talks", "walk", "walked", "walks"]


def begun_by_hand(words, text):
    """The first number and how many of some rising words begin with a text."""
    places = [number for number, word in enumerate(words) if word.startswith(text)]
    return (places[0], len(places)) if places else (0, 0)


class NumbersCase(unittest.TestCase):
    def assert_numbered(self, machine, words):
        """The machine's words are numbered as these are, that rise."""
        for number, word in enumerate(words):
            self.assertEqual(number_of(machine, word), number)
            self.assertEqual(word_at(machine, number), word)
        self.assert_refused(NoNumber, word_at, machine, len(words))
        self.assert_refused(NoNumber, word_at, machine, -1)

    def assert_refused(self, refusal, deed, *told):
        with self.assertRaises(MendError) as caught:
            deed(*told)
        self.assertIs(caught.exception.__class__, refusal)


class NumbersTest(NumbersCase):
    def test_ordinary_words(self):
        machine = Machine(TALK)
        self.assertEqual(number_of(machine, "talk"), 0)
        self.assertEqual(number_of(machine, "walk"), 3)
        self.assertEqual(word_at(machine, 0), "talk")
        self.assertEqual(word_at(machine, 2), "talks")
        self.assertEqual(word_at(machine, 5), "walks")
        self.assert_numbered(machine, TALK)

    def test_one_word(self):
        for word in ("a", "walk", "a" * 16):
            self.assert_numbered(Machine([word]), [word])

    def test_words_that_end_within_others(self):
        words = ["a", "aa", "aaa", "aab", "ab", "b", "ba", "bab"]
        self.assert_numbered(Machine(words[::-1]), words)

    def test_numbers_go_with_the_machine(self):
        machine = Machine(["b"])
        self.assertEqual(number_of(machine, "b"), 0)
        machine.put("a")
        self.assertEqual(number_of(machine, "b"), 1)
        self.assertEqual(word_at(machine, 0), "a")
        machine.put("aa")
        self.assert_numbered(machine, ["a", "aa", "b"])
        machine.take("a")
        self.assert_numbered(machine, ["aa", "b"])
        machine.take("aa")
        machine.take("b")
        self.assert_numbered(machine, [])

    def test_all_machines_of_a_few_words(self):
        words = ["a", "aa", "ab", "aba", "b", "ba", "bb"]
        for many in range(len(words) + 1):
            for some in itertools.combinations(words, many):
                self.assert_numbered(Machine(list(some)), list(some))

    def test_by_chance(self):
        chance = random.Random(3)
        for letters, longest in (("ab", 7), ("abcdefghijklmnopqrstuvwxyz", 16)):
            words = sorted({"".join(chance.choices(letters, k=chance.randint(1, longest)))
                            for _ in range(150)})
            self.assert_numbered(Machine(words), words)

    def test_kinds_of_values(self):
        machine = Machine(TALK)
        self.assertIs(number_of(machine, "talk").__class__, int)
        self.assertIs(word_at(machine, 0).__class__, str)

    def test_asking_changes_nothing(self):
        machine = Machine(TALK)
        rows = machine.rows()
        for word in TALK + ["zebra", "wal"]:
            begun(machine, word)
        self.assert_numbered(machine, TALK)
        self.assertEqual(machine.rows(), rows)


class RefusalsTest(NumbersCase):
    def test_a_word_that_is_not_there(self):
        machine = Machine(TALK)
        for word in ("t", "tal", "talke", "talkedd", "a", "zebra", "alk", "z" * 16):
            self.assert_refused(NoWord, number_of, machine, word)
        for word in ("a", "talk"):
            self.assert_refused(NoWord, number_of, Machine(), word)

    def test_a_word_that_was_taken(self):
        machine = Machine(TALK)
        machine.take("talk")
        self.assert_refused(NoWord, number_of, machine, "talk")

    def test_what_is_no_word(self):
        machine = Machine(TALK)
        for thing in ["", "Talk", "talk ", " talk", "talk\n", "q" * 17, "0"] + no_texts():
            with self.subTest(object.__repr__(thing)):
                self.assert_refused(NoWord, number_of, machine, thing)
                self.assert_refused(NoWord, number_of, Machine(), thing)
        for sign in OTHER_SIGNS:
            self.assert_refused(NoWord, number_of, machine, "talk" + sign)

    def test_a_number_that_no_word_has(self):
        machine = Machine(TALK)
        for number in (-1, -2, -6, -7, 6, 7, 100, 10 ** 9, 10 ** 5000, -10 ** 5000):
            self.assert_refused(NoNumber, word_at, machine, number)
        for number in (-1, 0, 1, 10 ** 9):
            self.assert_refused(NoNumber, word_at, Machine(), number)

    def test_what_is_no_number(self):
        machine = Machine(TALK)
        for thing in no_wholes() + TALK:
            with self.subTest(object.__repr__(thing)):
                self.assert_refused(NoNumber, word_at, machine, thing)
                self.assert_refused(NoNumber, word_at, Machine(), thing)

    def test_a_refusal_changes_nothing(self):
        machine = Machine(TALK)
        rows = machine.rows()
        self.assert_refused(NoWord, number_of, machine, "zebra")
        self.assert_refused(NoNumber, word_at, machine, 6)
        self.assertEqual(machine.rows(), rows)


class BegunTest(NumbersCase):
    def test_ordinary_texts(self):
        machine = Machine(TALK + ["wade"])
        self.assertEqual(begun(machine, "t"), (0, 3))
        self.assertEqual(begun(machine, "talk"), (0, 3))
        self.assertEqual(begun(machine, "talke"), (1, 1))
        self.assertEqual(begun(machine, "talks"), (2, 1))
        self.assertEqual(begun(machine, "w"), (3, 4))
        self.assertEqual(begun(machine, "wad"), (3, 1))
        self.assertEqual(begun(machine, "wal"), (4, 3))
        self.assertEqual(begun(machine, "walks"), (6, 1))

    def test_no_letter(self):
        self.assertEqual(begun(Machine(TALK), ""), (0, 6))
        self.assertEqual(begun(Machine(["b"]), ""), (0, 1))
        self.assertEqual(begun(Machine(), ""), (0, 0))

    def test_texts_that_no_word_begins_with(self):
        machine = Machine(TALK)
        for text in ("a", "z", "ta" "a", "talkz", "talkedd", "walksa", "alk", "v", "x",
                     "q" * 16, "q" * 17, "talk" * 100):
            self.assertEqual(begun(machine, text), (0, 0))
            self.assertEqual(begun(Machine(), text), (0, 0))

    def test_sixteen_letters_and_more(self):
        machine = Machine(["a" * 15, "a" * 16, "b"])
        self.assertEqual(begun(machine, "a" * 15), (0, 2))
        self.assertEqual(begun(machine, "a" * 16), (1, 1))
        self.assertEqual(begun(machine, "a" * 17), (0, 0))

    def test_begun_and_numbers_are_of_one_kind(self):
        machine = Machine(TALK)
        for text in ("", "t", "wa", "walk", "walks"):
            first, many = begun(machine, text)
            words = [word_at(machine, number) for number in range(first, first + many)]
            self.assertEqual(words, [word for word in TALK if word.startswith(text)])

    def test_kinds_of_values(self):
        machine = Machine(TALK)
        for text in ("", "t", "walk", "z"):
            told = begun(machine, text)
            self.assertIs(told.__class__, tuple)
            self.assertEqual([part.__class__ for part in told], [int, int])

    def test_all_short_texts(self):
        chance = random.Random(4)
        texts = [""] + ["".join(letters) for many in range(1, 6)
                        for letters in itertools.product("abc", repeat=many)]
        for _ in range(10):
            words = sorted(chance.sample(texts[1:], chance.randint(0, 40)))
            machine = Machine(words)
            for text in texts:
                self.assertEqual(begun(machine, text), begun_by_hand(words, text))


class PlaceTest(unittest.TestCase):
    def test_all_are_defined_in_their_file(self):
        for one in (number_of, word_at, begun):
            self.assertEqual(one.__module__, "wordmend.numbers")
            self.assertIs(getattr(numbers, one.__name__), one)


if __name__ == "__main__":
    unittest.main()
