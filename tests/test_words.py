import re
import unittest

from tests.things import OTHER_SIGNS, SMALL, no_texts
from wordmend import words
from wordmend.errors import BadWord
from wordmend.words import are_letters, is_word, need_word

ORDINARY = ["a", "z", "at", "walk", "zebra", "mending", "aaaa", "abcdefghijklmnop"]


class WordsCase(unittest.TestCase):
    def assert_word(self, thing):
        self.assertIs(is_word(thing), True)
        self.assertIs(are_letters(thing), True)
        self.assertIsNone(need_word(thing))

    def assert_no_word(self, thing, letters):
        self.assertIs(is_word(thing), False)
        self.assertIs(are_letters(thing), letters)
        with self.assertRaises(BadWord) as caught:
            need_word(thing)
        self.assertIs(caught.exception.__class__, BadWord)


class TextsTest(WordsCase):
    def test_ordinary_words(self):
        for word in ORDINARY:
            with self.subTest(word):
                self.assert_word(word)

    def test_each_small_letter_is_a_word_and_stands_anywhere(self):
        for letter in SMALL:
            for word in (letter, letter + "ab", "a" + letter + "b", "ab" + letter):
                with self.subTest(word):
                    self.assert_word(word)

    def test_how_many_letters(self):
        for many in range(1, 17):
            self.assert_word("q" * many)
            self.assert_word((SMALL + SMALL)[many:2 * many])
        for many in (17, 18, 26, 32, 1000, 100000):
            self.assert_no_word("q" * many, True)
        self.assert_no_word(SMALL, True)

    def test_no_letter(self):
        self.assert_no_word("", True)

    def test_another_sign_at_the_beginning_amid_and_at_the_end(self):
        for sign in OTHER_SIGNS:
            for text in (sign, sign + "walk", "wa" + sign + "lk", "walk" + sign,
                         sign + "walk" + sign, sign * 3):
                with self.subTest(text):
                    self.assert_no_word(text, False)

    def test_another_sign_among_as_many_signs_as_a_word_may_have(self):
        for place in range(16):
            for sign in "A1 -\n":
                self.assert_no_word("a" * place + sign + "a" * (15 - place), False)

    def test_another_sign_amid_too_many(self):
        for text in (SMALL + "A" + SMALL, "q" * 17 + "\n", "\n" + "q" * 17):
            self.assert_no_word(text, False)

    def test_named_edges(self):
        for text in (" ", "\n", "\t", "walk\n", "\nwalk", "walk ", " walk", "wa lk",
                     "wa\nlk", "Walk", "waLk", "walK", "WALK", "1walk", "wa1lk",
                     "walk1", "12", "-", "wa-lk", "walk.", "'walk", "wa_lk",
                     "0", "None", "True", "[walk]"):
            with self.subTest(text):
                self.assert_no_word(text, False)

    def test_all_short_texts_of_a_few_signs(self):
        texts = [""]
        for _ in range(4):
            texts = texts + [text + sign for text in texts for sign in "azAZ0 .\n"]
        for text in texts:
            letters = re.fullmatch("[a-z]*", text) is not None
            self.assertIs(are_letters(text), letters)
            self.assertIs(is_word(text), letters and text != "")


class ThingsTest(WordsCase):
    def test_what_is_no_text(self):
        for thing in no_texts():
            with self.subTest(object.__repr__(thing)):
                self.assert_no_word(thing, False)

    def test_words_in_a_list_tuple_or_dict_are_no_word(self):
        for thing in (["walk"], ("walk",), {"walk": 1}, {"walk"}, ["w", "a"], list("walk"),
                      tuple("walk"), b"walk"):
            self.assert_no_word(thing, False)

    def test_what_is_handed_in_is_not_changed(self):
        things = [["b", "a"], {"b": ["a"], "a": {}}, [[], ["a", ("b", [])]]]
        for thing in things:
            self.assert_no_word(thing, False)
        self.assertEqual(things, [["b", "a"], {"b": ["a"], "a": {}}, [[], ["a", ("b", [])]]])
        self.assertEqual(list(things[1]), ["b", "a"])

    def test_asked_again_the_answer_is_the_same(self):
        for _ in range(2):
            self.assert_word("walk")
            self.assert_no_word("Walk", False)
            self.assert_no_word("", True)


class PlaceTest(unittest.TestCase):
    def test_all_are_defined_in_their_file(self):
        for one in (is_word, need_word, are_letters):
            self.assertEqual(one.__module__, "wordmend.words")
            self.assertIs(getattr(words, one.__name__), one)


if __name__ == "__main__":
    unittest.main()
