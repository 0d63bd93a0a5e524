import itertools
import random
import unittest

from tests.things import OTHER_SIGNS, SMALL, no_texts
from wordmend import machines
from wordmend.errors import BadWord, MendError
from wordmend.machines import Machine

EMPTY = [(False, ())]
METHODS = ["put", "take", "has", "many", "words", "rows", "copied"]
TALK = ["walk", "walks", "walked", "talk", "talks", "talked"]
LONG = "abcdefghijklmnop"
NO_WORDS = ["", "Walk", "walK", "WALK", "walk ", " walk", "wa lk", "walk\n", "\n", "1", "a1", "-",
            "q" * 17, "q" * 100000, SMALL]


def rest_behind(rests, letter):
    """What stands behind a letter, of those texts that begin with it."""
    return frozenset(rest[1:] for rest in rests if rest.startswith(letter))


def rows_by_rests(words):
    """The rows of the least machine: a state is just what may stand behind it."""
    numbers = {}
    rows = []

    def visit(rests):
        if rests in numbers:
            return
        numbers[rests] = len(rows)
        rows.append(None)
        letters = sorted({rest[0] for rest in rests if rest != ""})
        for letter in letters:
            visit(rest_behind(rests, letter))
        leads = tuple((letter, numbers[rest_behind(rests, letter)]) for letter in letters)
        rows[numbers[rests]] = ("" in rests, leads)

    visit(frozenset(words))
    return rows


def words_by_rows(rows):
    """All words that lead from the first of some rows to an end."""
    found = []
    waiting = [("", 0)]
    while waiting:
        text, number = waiting.pop()
        is_end, leads = rows[number]
        if is_end:
            found.append(text)
        waiting.extend((text + letter, behind) for letter, behind in leads)
    return sorted(found)


class MachinesCase(unittest.TestCase):
    def assert_has_just(self, machine, words):
        """The machine has these words and no other ones, and tells so in each way."""
        rising = sorted(set(words))
        self.assertEqual(machine.words(), rising)
        self.assertEqual(machine.many(), len(rising))
        self.assertEqual(machine.rows(), rows_by_rests(rising))
        self.assertEqual(words_by_rows(machine.rows()), rising)
        for word in rising:
            self.assertIs(machine.has(word), True)

    def assert_bad_word(self, deed, *told):
        with self.assertRaises(MendError) as caught:
            deed(*told)
        self.assertIs(caught.exception.__class__, BadWord)


class WordsTest(MachinesCase):
    def test_no_words(self):
        for machine in (Machine(), Machine(None), Machine([])):
            self.assertEqual(machine.rows(), EMPTY)
            self.assertEqual(machine.words(), [])
            self.assertEqual(machine.many(), 0)
            self.assertIs(machine.has("a"), False)
            self.assertIs(machine.has(""), False)

    def test_put(self):
        machine = Machine()
        self.assertIs(machine.put("walk"), True)
        self.assert_has_just(machine, ["walk"])
        self.assertIs(machine.put("talk"), True)
        self.assert_has_just(machine, ["walk", "talk"])

    def test_put_twice(self):
        machine = Machine()
        self.assertIs(machine.put("walk"), True)
        self.assertIs(machine.put("walk"), False)
        self.assertIs(machine.put("walk"), False)
        self.assert_has_just(machine, ["walk"])
        self.assertIs(machine.take("walk"), True)
        self.assert_has_just(machine, [])

    def test_take(self):
        machine = Machine(["walk", "talk"])
        self.assertIs(machine.take("walk"), True)
        self.assertIs(machine.has("walk"), False)
        self.assert_has_just(machine, ["talk"])
        self.assertIs(machine.take("walk"), False)
        self.assert_has_just(machine, ["talk"])
        self.assertIs(machine.take("talk"), True)
        self.assertEqual(machine.rows(), EMPTY)
        self.assertIs(machine.take("talk"), False)
        self.assertEqual(machine.rows(), EMPTY)

    def test_take_what_was_never_there(self):
        machine = Machine(["walked"])
        for word in ("w", "walk", "walke", "walkeds", "talked", "z", "alked", "d"):
            self.assertIs(machine.take(word), False)
            self.assertIs(machine.has(word), False)
            self.assert_has_just(machine, ["walked"])
        self.assertIs(Machine().take("a"), False)

    def test_put_again_what_was_taken(self):
        machine = Machine(TALK)
        rows = machine.rows()
        for word in TALK:
            self.assertIs(machine.take(word), True)
            self.assertIs(machine.put(word), True)
            self.assertEqual(machine.rows(), rows)

    def test_a_beginning_of_a_word_is_a_word_of_its_own(self):
        machine = Machine(["walked"])
        self.assertIs(machine.put("walk"), True)
        self.assert_has_just(machine, ["walk", "walked"])
        self.assertIs(machine.take("walked"), True)
        self.assert_has_just(machine, ["walk"])
        self.assertIs(machine.put("walked"), True)
        self.assertIs(machine.take("walk"), True)
        self.assert_has_just(machine, ["walked"])

    def test_has(self):
        machine = Machine(TALK)
        for word in TALK:
            self.assertIs(machine.has(word), True)
        for word in ("w", "wa", "wal", "walke", "walkedd", "alk", "talksw", "s", "z"):
            self.assertIs(machine.has(word), False)

    def test_words_rise(self):
        machine = Machine(["b", "ab", "a", "aab", "ba", "abc", "z", "aa"])
        self.assertEqual(machine.words(), ["a", "aa", "aab", "ab", "abc", "b", "ba", "z"])

    def test_some_words_twice_in_the_list(self):
        machine = Machine(["a", "b", "a", "a", "b"])
        self.assert_has_just(machine, ["a", "b"])
        self.assertIs(machine.take("a"), True)
        self.assert_has_just(machine, ["b"])

    def test_one_letter_and_sixteen(self):
        words = list(SMALL) + [LONG, LONG[1:], LONG[::-1], "a" * 16, "a" * 15, "z" * 16]
        machine = Machine(words)
        self.assert_has_just(machine, words)
        for word in words:
            self.assertIs(machine.take(word), True)
        self.assertEqual(machine.rows(), EMPTY)

    def test_each_letter_at_each_place(self):
        words = ["q" * place + letter + "q" * (15 - place) for place in range(16)
                 for letter in SMALL]
        self.assert_has_just(Machine(words), words)

    def test_many_words(self):
        words = ["".join(letters) for letters in itertools.product("abcdef", repeat=5)]
        machine = Machine(words)
        self.assertEqual(machine.many(), 6 ** 5)
        self.assertEqual(machine.words(), words)
        self.assertEqual(len(machine.rows()), 6)


class RowsTest(MachinesCase):
    def test_one_word(self):
        self.assertEqual(Machine(["a"]).rows(), [(False, (("a", 1),)), (True, ())])
        self.assertEqual(Machine(["dog"]).rows(), [
            (False, (("d", 1),)), (False, (("o", 2),)), (False, (("g", 3),)), (True, ())])

    def test_shared_beginnings(self):
        self.assertEqual(Machine(["ab", "ac"]).rows(), [
            (False, (("a", 1),)), (False, (("b", 2), ("c", 2))), (True, ())])
        self.assertEqual(Machine(["ab", "acd"]).rows(), [
            (False, (("a", 1),)), (False, (("b", 2), ("c", 3))), (True, ()), (False, (("d", 2),))])

    def test_shared_ends(self):
        self.assertEqual(Machine(["walk", "talk"]).rows(), [
            (False, (("t", 1), ("w", 1))), (False, (("a", 2),)), (False, (("l", 3),)),
            (False, (("k", 4),)), (True, ())])
        self.assertEqual(Machine(["aq", "bbq"]).rows(), [
            (False, (("a", 1), ("b", 3))), (False, (("q", 2),)), (True, ()), (False, (("b", 1),))])

    def test_a_word_that_ends_within_another_one(self):
        self.assertEqual(Machine(["a", "ab"]).rows(), [
            (False, (("a", 1),)), (True, (("b", 2),)), (True, ())])
        self.assertEqual(Machine(["a", "aa", "aaa"]).rows(), [
            (False, (("a", 1),)), (True, (("a", 2),)), (True, (("a", 3),)), (True, ())])

    def test_a_word_that_is_the_end_of_another_one(self):
        self.assertEqual(Machine(["a", "ba"]).rows(), [
            (False, (("a", 1), ("b", 2))), (True, ()), (False, (("a", 1),))])

    def test_shared_beginnings_and_ends(self):
        self.assertEqual(Machine(TALK).rows(), [
            (False, (("t", 1), ("w", 1))), (False, (("a", 2),)), (False, (("l", 3),)),
            (False, (("k", 4),)), (True, (("e", 5), ("s", 6))), (False, (("d", 6),)), (True, ())])

    def test_an_end_and_none_are_unlike(self):
        # Behind b and behind c the same letter leads on, but c is a word as well.
        self.assertEqual(Machine(["bx", "c", "cx"]).rows(), [
            (False, (("b", 1), ("c", 3))), (False, (("x", 2),)), (True, ()), (True, (("x", 2),))])

    def test_whatever_is_behind_a_letter_is_numbered_ahead_of_the_next_letter(self):
        self.assertEqual(Machine(["abc", "d", "bz"]).rows(), [
            (False, (("a", 1), ("b", 4), ("d", 3))), (False, (("b", 2),)), (False, (("c", 3),)),
            (True, ()), (False, (("z", 3),))])

    def test_a_state_is_numbered_where_it_is_come_to_first(self):
        # What is behind c is come to by way of a already, two letters deep.
        self.assertEqual(Machine(["abx", "cx", "dcx"]).rows(), [
            (False, (("a", 1), ("c", 2), ("d", 4))), (False, (("b", 2),)), (False, (("x", 3),)),
            (True, ()), (False, (("c", 2),))])

    def test_the_first_state_is_never_an_end(self):
        for words in (["a"], ["a", "aa"], list(SMALL)):
            self.assertIs(Machine(words).rows()[0][0], False)

    def test_kinds_of_values(self):
        rows = Machine(TALK).rows()
        self.assertIs(rows.__class__, list)
        for row in rows:
            self.assertIs(row.__class__, tuple)
            is_end, leads = row
            self.assertIs(is_end.__class__, bool)
            self.assertIs(leads.__class__, tuple)
            for lead in leads:
                self.assertIs(lead.__class__, tuple)
                self.assertEqual([part.__class__ for part in lead], [str, int])
        self.assertIs(Machine(TALK).words().__class__, list)
        self.assertIs(Machine(TALK).many().__class__, int)
        self.assertIs(Machine().many().__class__, int)

    def test_any_order_of_the_same_words(self):
        words = ["a", "ba", "bab", "ab", "b"]
        rows = rows_by_rests(words)
        for order in itertools.permutations(words):
            self.assertEqual(Machine(list(order)).rows(), rows)

    def test_any_order_of_putting_and_taking(self):
        words = ["ab", "b", "bab", "a", "aab"]
        for order in itertools.permutations(words):
            machine = Machine(words)
            for place, word in enumerate(order):
                machine.take(word)
                self.assert_has_just(machine, order[place + 1:])
            for place, word in enumerate(order):
                machine.put(word)
                self.assert_has_just(machine, order[:place + 1])

    def test_all_machines_of_a_few_words(self):
        words = ["a", "b", "aa", "ab", "ba", "bb", "aab", "bab"]
        for many in range(len(words) + 1):
            for some in itertools.combinations(words, many):
                self.assert_has_just(Machine(list(some)), some)

    def test_the_first_state_goes_on_behind_a_letter(self):
        # What was the first state is another one now, and the other way about.
        machine = Machine(["a"])
        machine.put("ba")
        self.assert_has_just(machine, ["a", "ba"])
        machine.take("ba")
        self.assert_has_just(machine, ["a"])
        machine.put("ba")
        machine.take("a")
        self.assert_has_just(machine, ["ba"])

    def test_by_chance(self):
        chance = random.Random(8)
        for letters, longest in (("ab", 6), ("abc", 4), (SMALL, 16)):
            machine = Machine()
            there = {}
            pool = ["".join(chance.choices(letters, k=chance.randint(1, longest)))
                    for _ in range(60)]
            for _ in range(400):
                word = chance.choice(pool)
                if chance.random() < 0.5:
                    self.assertIs(machine.put(word), word not in there)
                    there[word] = True
                else:
                    self.assertIs(machine.take(word), word in there)
                    there.pop(word, None)
                self.assert_has_just(machine, there)

    def test_nothing_is_kept_but_the_least_machine(self):
        chance = random.Random(9)
        machine = Machine()
        for _ in range(500):
            word = "".join(chance.choices("abc", k=chance.randint(1, 5)))
            if chance.random() < 0.6:
                machine.put(word)
            else:
                machine.take(word)
            # The state without anything behind it stays, though none may lead to it.
            many = len(machine.rows()) + (1 if machine.many() else 0)
            self.assertEqual(len(machine._states), many)
            self.assertEqual(len(machine._needs), many)


class CopiesTest(MachinesCase):
    def test_a_copy_is_alike(self):
        for words in ([], ["a"], TALK, [LONG, "a" * 16]):
            machine = Machine(words)
            other = machine.copied()
            self.assertIsNot(other, machine)
            self.assertIs(other.__class__, Machine)
            self.assert_has_just(other, words)
            self.assert_has_just(machine, words)

    def test_what_a_copy_changes_changes_nothing_else(self):
        machine = Machine(TALK)
        other = machine.copied()
        other.take("walk")
        other.put("balk")
        self.assert_has_just(machine, TALK)
        self.assert_has_just(other, TALK[1:] + ["balk"])
        machine.put("stalk")
        machine.take("talk")
        self.assert_has_just(machine, [word for word in TALK if word != "talk"] + ["stalk"])
        self.assert_has_just(other, TALK[1:] + ["balk"])

    def test_emptied_copies(self):
        machine = Machine(TALK)
        other = machine.copied()
        third = other.copied()
        for word in TALK:
            other.take(word)
        self.assertEqual(other.rows(), EMPTY)
        self.assert_has_just(machine, TALK)
        self.assert_has_just(third, TALK)
        empty = other.copied()
        empty.put("a")
        self.assertEqual(other.rows(), EMPTY)
        self.assert_has_just(empty, ["a"])

    def test_two_machines_have_nothing_in_common(self):
        one, other = Machine(), Machine()
        one.put("a")
        self.assertEqual(other.rows(), EMPTY)
        other.put("b")
        self.assert_has_just(one, ["a"])

    def test_told_lists_are_the_askers_own(self):
        machine = Machine(TALK)
        rows, words = machine.rows(), machine.words()
        kept = list(rows)
        rows.clear()
        words.append("zebra")
        words[0] = "a"
        self.assert_has_just(machine, TALK)
        again = machine.rows()
        machine.take("walk")
        self.assertEqual(again, kept)
        self.assertIsNot(machine.rows(), machine.rows())
        self.assertIsNot(machine.words(), machine.words())

    def test_the_list_that_is_handed_in(self):
        words = ["b", "a", "b"]
        machine = Machine(words)
        self.assertEqual(words, ["b", "a", "b"])
        words.append("c")
        words[0] = "d"
        self.assert_has_just(machine, ["a", "b"])
        machine.put("e")
        machine.take("a")
        self.assertEqual(words, ["d", "a", "b", "c"])

    def test_asking_changes_nothing(self):
        machine = Machine(TALK)
        for _ in range(3):
            machine.has("zebra")
            machine.has("walks")
            machine.has("")
            machine.copied()
            self.assert_has_just(machine, TALK)


class RefusalsTest(MachinesCase):
    def test_what_is_no_word(self):
        machine = Machine(TALK)
        for thing in NO_WORDS + no_texts():
            with self.subTest(object.__repr__(thing)):
                self.assert_bad_word(machine.put, thing)
                self.assert_bad_word(machine.take, thing)
                self.assertIs(machine.has(thing), False)
        self.assert_has_just(machine, TALK)

    def test_what_is_no_word_and_no_words_are_there(self):
        machine = Machine()
        for thing in NO_WORDS + no_texts():
            self.assert_bad_word(machine.put, thing)
            self.assert_bad_word(machine.take, thing)
            self.assertIs(machine.has(thing), False)
        self.assertEqual(machine.rows(), EMPTY)

    def test_another_sign_in_a_word(self):
        machine = Machine(["walk"])
        for sign in OTHER_SIGNS:
            for text in (sign, sign + "walk", "wa" + sign + "lk", "walk" + sign):
                self.assert_bad_word(machine.put, text)
                self.assert_bad_word(machine.take, text)
                self.assertIs(machine.has(text), False)
        self.assert_has_just(machine, ["walk"])

    def test_what_is_no_word_in_the_list(self):
        for thing in NO_WORDS + no_texts():
            with self.subTest(object.__repr__(thing)):
                self.assert_bad_word(Machine, [thing])
                self.assert_bad_word(Machine, ["a", thing])
                self.assert_bad_word(Machine, [thing, "a"])
                self.assert_bad_word(Machine, ["a", "b", thing, "c"])

    def test_a_refused_list_stays_as_it_is(self):
        words = ["b", "", "a"]
        self.assert_bad_word(Machine, words)
        self.assertEqual(words, ["b", "", "a"])

    def test_a_beginning_that_is_no_word_of_too_many_letters(self):
        machine = Machine(["a" * 16])
        self.assert_bad_word(machine.put, "a" * 17)
        self.assert_bad_word(machine.take, "a" * 17)
        self.assertIs(machine.has("a" * 17), False)
        self.assert_has_just(machine, ["a" * 16])


class PlaceTest(unittest.TestCase):
    def test_the_class_and_its_methods_are_defined_in_their_file(self):
        self.assertEqual(Machine.__module__, "wordmend.machines")
        self.assertIs(machines.Machine, Machine)
        for name in METHODS:
            self.assertIn(name, vars(Machine))


if __name__ == "__main__":
    unittest.main()
