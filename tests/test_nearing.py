import itertools
import random
import unittest

from tests.things import OTHER_SIGNS, SMALL, no_texts, no_wholes
from wordmend import nearing
from wordmend.errors import BadPrice, BadWord, MendError
from wordmend.machines import Machine
from wordmend.nearing import near, nearest
from wordmend.prices import Prices, price_of

TALK = ["talk", "talked", "talks", "walk", "walked", "walks"]
USUAL = Prices(2, 2, 3, 2)
MOST = 10 ** 9
NO_WORDS = ["", "Walk", "walk ", " walk", "walk\n", "0", "q" * 17]


def all_by_price(words, prices, word):
    """All words with their prices, rising."""
    return sorted((price_of(prices, word, other), other) for other in words)


class NearingCase(unittest.TestCase):
    def assert_refused(self, refusal, deed, *told):
        with self.assertRaises(MendError) as caught:
            deed(*told)
        self.assertIs(caught.exception.__class__, refusal)

    def assert_all(self, words, prices, word, mosts):
        """Near and nearest tell what a look at all words finds."""
        machine = Machine(words)
        rows = all_by_price(words, prices, word)
        for most in mosts:
            self.assertEqual(near(machine, prices, word, most),
                             [row for row in rows if row[0] <= most])
        for many in (1, 2, 3, 7, 49, 50):
            self.assertEqual(nearest(machine, prices, word, many), rows[:many])


class NearTest(NearingCase):
    def test_ordinary_words(self):
        machine = Machine(TALK)
        self.assertEqual(near(machine, USUAL, "walk", 0), [(0, "walk")])
        self.assertEqual(near(machine, USUAL, "walk", 1), [(0, "walk")])
        self.assertEqual(near(machine, USUAL, "walk", 2), [(0, "walk"), (2, "walks")])
        self.assertEqual(near(machine, USUAL, "walk", 3), [
            (0, "walk"), (2, "walks"), (3, "talk")])
        self.assertEqual(near(machine, USUAL, "walk", 4), [
            (0, "walk"), (2, "walks"), (3, "talk"), (4, "walked")])
        self.assertEqual(near(machine, USUAL, "walk", 100), [
            (0, "walk"), (2, "walks"), (3, "talk"), (4, "walked"), (5, "talks"), (7, "talked")])

    def test_words_of_one_price_rise(self):
        machine = Machine(["bb", "ab", "cb", "aab", "b", "bba"])
        self.assertEqual(near(machine, Prices(1, 1, 1, 1), "bb", 1), [
            (0, "bb"), (1, "ab"), (1, "b"), (1, "bba"), (1, "cb")])

    def test_none_is_near(self):
        machine = Machine(TALK)
        self.assertEqual(near(machine, USUAL, "zebra", 0), [])
        self.assertEqual(near(machine, USUAL, "walkz", 1), [])
        self.assertEqual(near(Machine(), USUAL, "walk", MOST), [])
        self.assertEqual(near(Machine(), USUAL, "walk", 0), [])

    def test_how_much_is_no_bound_to_the_words(self):
        machine = Machine(TALK)
        for most in (10 ** 12, 10 ** 5000):
            self.assertEqual(len(near(machine, USUAL, "q", most)), 6)
        words = ["".join(letters) for letters in itertools.product("abc", repeat=5)]
        self.assertEqual(len(near(Machine(words), USUAL, "abcab", 100)), 243)

    def test_each_kind_of_piece(self):
        dear = Prices(1000, 1000, 1000, 1)
        self.assertEqual(near(Machine(["ba"]), dear, "ab", 1), [(1, "ba")])
        self.assertEqual(near(Machine(["ba"]), dear, "ab", 0), [])
        self.assertEqual(near(Machine(["xxbaxx"]), dear, "xxabxx", 1), [(1, "xxbaxx")])
        self.assertEqual(near(Machine(["ab", "abc"]), Prices(5, 1000, 1000, 1000), "ab", 5), [
            (0, "ab"), (5, "abc")])
        self.assertEqual(near(Machine(["ab", "a", "b"]), Prices(1000, 5, 1000, 1000), "ab", 5), [
            (0, "ab"), (5, "a"), (5, "b")])
        self.assertEqual(near(Machine(["cb"]), Prices(1000, 1000, 5, 1000), "ab", 5), [(5, "cb")])

    def test_the_word_is_the_first_one_of_the_mending(self):
        told = Prices(7, 3, 100, 100, {("a", "b"): 1})
        self.assertEqual(near(Machine(["b"]), told, "a", 1), [(1, "b")])
        self.assertEqual(near(Machine(["a"]), told, "b", 9), [])
        self.assertEqual(near(Machine(["a"]), told, "b", 10), [(10, "a")])
        self.assertEqual(near(Machine(["ab"]), told, "b", 7), [(7, "ab")])
        self.assertEqual(near(Machine(["b"]), told, "cb", 3), [(3, "b")])

    def test_two_turns_one_behind_the_other(self):
        told = Prices(50, 50, 50, 1)
        self.assertEqual(near(Machine(["badc"]), told, "abcd", 2), [(2, "badc")])
        self.assertEqual(near(Machine(["badc"]), told, "abcd", 1), [])

    def test_prices_at_their_bounds(self):
        told = Prices(MOST, MOST, MOST, MOST)
        self.assertEqual(near(Machine(["b" * 16]), told, "a" * 16, 16 * MOST), [
            (16 * MOST, "b" * 16)])
        self.assertEqual(near(Machine(["b" * 16]), told, "a" * 16, 16 * MOST - 1), [])


class NearestTest(NearingCase):
    def test_ordinary_words(self):
        machine = Machine(TALK)
        self.assertEqual(nearest(machine, USUAL, "walk", 1), [(0, "walk")])
        self.assertEqual(nearest(machine, USUAL, "walk", 2), [(0, "walk"), (2, "walks")])
        self.assertEqual(nearest(machine, USUAL, "talc", 3), [
            (3, "talk"), (5, "talks"), (6, "walk")])

    def test_fewer_words_than_asked_for(self):
        machine = Machine(TALK)
        rows = all_by_price(TALK, USUAL, "q")
        for many in (6, 7, 50):
            self.assertEqual(nearest(machine, USUAL, "q", many), rows)
        for many in (1, 50):
            self.assertEqual(nearest(Machine(), USUAL, "q", many), [])

    def test_words_of_one_price_rise(self):
        machine = Machine(["d", "c", "b", "bb", "cc"])
        self.assertEqual(nearest(machine, Prices(1, 1, 1, 1), "a", 4), [
            (1, "b"), (1, "c"), (1, "d"), (2, "bb")])
        # A word and a longer one that begins with it cost the same.
        self.assertEqual(nearest(Machine(["ab", "abb", "aab"]), Prices(1, 1, 2, 2), "abab", 3), [
            (1, "aab"), (1, "abb"), (2, "ab")])

    def test_of_many_words(self):
        words = ["".join(letters) for letters in itertools.product("abcd", repeat=4)]
        self.assert_all(words, USUAL, "abcd", (0, 1, 2, 3, 4, 5, 20))
        self.assert_all(words, Prices(1, 9, 2, 1), "dd", (0, 1, 2, 3, 4, 5, 20))

    def test_the_dearest_words_too(self):
        words = ["b" * 16, "c" * 16, "a", "z"]
        for told in (Prices(1, 1, MOST, 1), Prices(MOST, 1, MOST, 1), Prices(1, MOST, MOST, 1),
                     Prices(MOST, MOST, MOST, MOST)):
            for word in ("a", "a" * 16, "z" * 8):
                rows = all_by_price(words, told, word)
                self.assertEqual(nearest(Machine(words), told, word, 50), rows)

    def test_each_number_of_words(self):
        words = ["".join(letters) for letters in itertools.product("abc", repeat=4)]
        machine = Machine(words)
        rows = all_by_price(words, USUAL, "abca")
        for many in range(1, 51):
            self.assertEqual(nearest(machine, USUAL, "abca", many), rows[:many])


class BothTest(NearingCase):
    def test_words_that_end_within_others(self):
        words = ["a", "aa", "aaa", "ab", "aba", "b", "ba", "bab", "abab", "baba"]
        for word in words + ["bb", "abba", "c"]:
            self.assert_all(words, USUAL, word, range(12))

    def test_by_chance(self):
        chance = random.Random(7)
        for _ in range(120):
            numbers = [chance.randint(1, chance.choice((2, 5, 30))) for _ in range(4)]
            pairs = {pair: chance.randint(1, 30) for pair in itertools.permutations("abc", 2)
                     if chance.random() < 0.4}
            words = sorted({"".join(chance.choices("abc", k=chance.randint(1, 7)))
                            for _ in range(chance.randint(0, 40))})
            word = "".join(chance.choices("abc", k=chance.randint(1, 7)))
            self.assert_all(words, Prices(*numbers, pairs), word, (0, 1, 3, 6, 12, 40, 500))

    def test_long_words(self):
        chance = random.Random(17)
        words = sorted({"".join(chance.choices(SMALL[:6], k=chance.randint(10, 16)))
                        for _ in range(40)})
        for word in words[:5] + ["a", "f" * 16]:
            self.assert_all(words, USUAL, word, (0, 5, 10, 20, 40))

    def test_they_go_with_the_machine(self):
        machine = Machine(["walk"])
        self.assertEqual(near(machine, USUAL, "talk", 3), [(3, "walk")])
        machine.put("talk")
        self.assertEqual(near(machine, USUAL, "talk", 3), [(0, "talk"), (3, "walk")])
        self.assertEqual(nearest(machine, USUAL, "talk", 1), [(0, "talk")])
        machine.take("talk")
        self.assertEqual(nearest(machine, USUAL, "talk", 1), [(3, "walk")])

    def test_kinds_of_values(self):
        machine = Machine(TALK)
        for rows in (near(machine, USUAL, "walk", 9), nearest(machine, USUAL, "walk", 9)):
            self.assertIs(rows.__class__, list)
            for row in rows:
                self.assertIs(row.__class__, tuple)
                self.assertEqual([part.__class__ for part in row], [int, str])

    def test_nothing_is_changed(self):
        machine = Machine(TALK)
        rows = machine.rows()
        for deed, number in ((near, 9), (nearest, 4)):
            told = deed(machine, USUAL, "walk", number)
            kept = list(told)
            told.clear()
            self.assertEqual(deed(machine, USUAL, "walk", number), kept)
        self.assertEqual(machine.rows(), rows)
        self.assertEqual(machine.words(), TALK)


class RefusalsTest(NearingCase):
    def test_what_is_no_word(self):
        for machine in (Machine(TALK), Machine()):
            for thing in NO_WORDS + no_texts():
                with self.subTest(object.__repr__(thing)):
                    self.assert_refused(BadWord, near, machine, USUAL, thing, 1)
                    self.assert_refused(BadWord, nearest, machine, USUAL, thing, 1)
        for sign in OTHER_SIGNS:
            self.assert_refused(BadWord, near, Machine(TALK), USUAL, "walk" + sign, 1)
            self.assert_refused(BadWord, nearest, Machine(TALK), USUAL, "walk" + sign, 1)

    def test_what_is_no_price_or_number(self):
        for machine in (Machine(TALK), Machine()):
            for thing in no_wholes() + [-1, -2, -10 ** 5000]:
                with self.subTest(object.__repr__(thing)):
                    self.assert_refused(BadPrice, near, machine, USUAL, "walk", thing)
                    self.assert_refused(BadPrice, nearest, machine, USUAL, "walk", thing)
            for many in (0, 51, 52, 100, MOST, 10 ** 5000):
                self.assert_refused(BadPrice, nearest, machine, USUAL, "walk", many)

    def test_a_bad_word_ahead_of_a_bad_price(self):
        machine = Machine(TALK)
        for thing in ["", "Walk", None, 7, [], ("a",)]:
            for number in no_wholes() + [-1]:
                self.assert_refused(BadWord, near, machine, USUAL, thing, number)
                self.assert_refused(BadWord, nearest, machine, USUAL, thing, number)
            self.assert_refused(BadWord, nearest, machine, USUAL, thing, 0)
            self.assert_refused(BadWord, nearest, machine, USUAL, thing, 51)

    def test_a_refusal_changes_nothing(self):
        machine = Machine(TALK)
        rows = machine.rows()
        self.assert_refused(BadWord, near, machine, USUAL, "", 1)
        self.assert_refused(BadPrice, nearest, machine, USUAL, "walk", 0)
        self.assertEqual(machine.rows(), rows)


class PlaceTest(unittest.TestCase):
    def test_all_are_defined_in_their_file(self):
        for one in (near, nearest):
            self.assertEqual(one.__module__, "wordmend.nearing")
            self.assertIs(getattr(nearing, one.__name__), one)


if __name__ == "__main__":
    unittest.main()
