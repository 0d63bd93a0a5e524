import itertools
import random
import re
import unittest

from tests.things import OTHER_SIGNS, SMALL, no_texts
from wordmend import partings
from wordmend.errors import BadPattern, BadWord, MendError
from wordmend.partings import Parter

METHODS = ["put", "counts", "parts"]
NO_WORDS = ["", "Walk", "walk ", " walk", "walk\n", "wa1lk", ".walk", "walk.", "q" * 17]


def counts_by_hand(patterns, word):
    """The counting numbers, found sign by sign."""
    best = [0] * (len(word) + 1)
    for pattern in patterns:
        letters = re.sub("[1-9.]", "", pattern)
        for place in range(len(word) - len(letters) + 1):
            if word[place:place + len(letters)] != letters:
                continue
            if re.match("[1-9]?[.]", pattern) and place != 0:
                continue
            if re.search("[.][1-9]?$", pattern) and place + len(letters) != len(word):
                continue
            gap = place - (1 if re.match("[1-9]?[.]", pattern) else 0)
            for sign in pattern:
                if sign in "123456789":
                    if 0 <= gap <= len(word):
                        best[gap] = max(best[gap], int(sign))
                else:
                    gap += 1
    return best[1:-1]


def parts_by_hand(patterns, word):
    """The pieces, by places where an odd number counts."""
    numbers = counts_by_hand(patterns, word)
    cuts = [place for place in range(2, len(word) - 1) if numbers[place - 1] in (1, 3, 5, 7, 9)]
    return [word[begin:end] for begin, end in zip([0] + cuts, cuts + [len(word)])]


def is_pattern(text):
    """Whether a text is a pattern, by another way."""
    if re.fullmatch("[1-9]?([.][1-9]?)?([a-z][1-9]?){1,6}([.][1-9]?)?", text) is None:
        return False
    return re.search("[1-9]", text) is not None


class PartingsCase(unittest.TestCase):
    def assert_counts(self, patterns, word, *numbers):
        self.assertEqual(Parter(patterns).counts(word), list(numbers))

    def assert_parts(self, patterns, *parts):
        self.assertEqual(Parter(patterns).parts("".join(parts)), list(parts))

    def assert_refused(self, refusal, deed, *told):
        with self.assertRaises(MendError) as caught:
            deed(*told)
        self.assertIs(caught.exception.__class__, refusal)

    def assert_no_pattern(self, thing):
        self.assert_refused(BadPattern, Parter, [thing])
        self.assert_refused(BadPattern, Parter, ["a1", thing])
        self.assert_refused(BadPattern, Parter, [thing, "a1"])


class CountsTest(PartingsCase):
    def test_no_patterns(self):
        parter = Parter([])
        self.assertEqual(parter.counts("a"), [])
        self.assertEqual(parter.counts("walk"), [0, 0, 0])
        self.assertEqual(parter.counts("a" * 16), [0] * 15)
        self.assertEqual(parter.parts("walk"), ["walk"])

    def test_a_figure_at_each_place_of_a_pattern(self):
        self.assert_counts(["1bc"], "abcd", 1, 0, 0)
        self.assert_counts(["b1c"], "abcd", 0, 1, 0)
        self.assert_counts(["bc1"], "abcd", 0, 0, 1)
        self.assert_counts(["1b2c3"], "abcd", 1, 2, 3)
        self.assert_counts(["4b"], "abcd", 4, 0, 0)
        self.assert_counts(["b4"], "abcd", 0, 4, 0)

    def test_each_figure(self):
        for figure in range(1, 10):
            self.assert_counts([f"b{figure}c"], "abcd", 0, figure, 0)

    def test_figures_at_the_ends_of_a_word_count_nowhere(self):
        self.assert_counts(["1abcd2"], "abcd", 0, 0, 0)
        self.assert_counts(["1a3", "4d5"], "abcd", 3, 0, 4)
        self.assert_counts(["9a9"], "a")
        self.assert_counts(["9a9"], "aa", 9)

    def test_a_point_ahead(self):
        self.assert_counts([".a1"], "aaa", 1, 0)
        self.assert_counts([".ab1"], "abab", 0, 1, 0)
        self.assert_counts([".b1"], "abab", 0, 0, 0)
        self.assert_counts([".1a"], "aaa", 0, 0)
        self.assert_counts(["1.a"], "aaa", 0, 0)
        self.assert_counts(["7.8a9"], "aaa", 9, 0)

    def test_a_point_behind(self):
        self.assert_counts(["1a."], "aaa", 0, 1)
        self.assert_counts(["1ab."], "abab", 0, 1, 0)
        self.assert_counts(["1a."], "abab", 0, 0, 0)
        self.assert_counts(["a1."], "aaa", 0, 0)
        self.assert_counts(["a.1"], "aaa", 0, 0)
        self.assert_counts(["9a8.7"], "aaa", 0, 9)

    def test_points_at_both_ends(self):
        self.assert_counts([".a1b."], "ab", 1)
        self.assert_counts([".a1b."], "aab", 0, 0)
        self.assert_counts([".a1b."], "abb", 0, 0)
        self.assert_counts(["1.2a3b4.5"], "ab", 3)
        self.assert_counts([".1a1."], "a")

    def test_each_place_where_a_pattern_stands(self):
        self.assert_counts(["a1"], "aaaa", 1, 1, 1)
        self.assert_counts(["a1b"], "abab", 1, 0, 1)
        self.assert_counts(["2aa1"], "aaaa", 2, 2, 1)
        self.assert_counts(["a1aa"], "aaaaa", 1, 1, 1, 0)

    def test_the_greatest_figure_counts(self):
        self.assert_counts(["a1b", "a4b", "a3b"], "ab", 4)
        self.assert_counts(["a4", "1b"], "ab", 4)
        self.assert_counts(["a1", "4b"], "ab", 4)
        self.assert_counts(["1a2", "a1b3", "b2c"], "xabc", 1, 2, 3)

    def test_any_order_of_patterns(self):
        patterns = ["a1", "2b", "3ab", "ab4", ".a5b"]
        for order in itertools.permutations(patterns):
            self.assert_counts(list(order), "abab", 5, 4, 2)
            self.assert_counts(list(order), "aab", 3, 2)

    def test_one_letter_and_six(self):
        self.assert_counts(["a1"], "ab", 1)
        self.assert_counts(["a1b2c3d4e5f"], "abcdef", 1, 2, 3, 4, 5)
        self.assert_counts(["1.2a3b4c5d6e7f8.9"], "abcdef", 3, 4, 5, 6, 7)
        self.assert_counts(["abcdef9"], "abcdefg", 0, 0, 0, 0, 0, 9)

    def test_a_pattern_longer_than_the_word(self):
        self.assert_counts(["a1bc"], "ab", 0)
        self.assert_counts(["abcde1f"], "a")
        self.assert_counts([".a1b."], "a")

    def test_a_point_stands_for_no_letter(self):
        self.assert_counts([".a1"], "baa", 0, 0)
        self.assert_counts(["1a."], "aab", 0, 0)

    def test_two_hundred_patterns(self):
        patterns = [one + "1" + other for one, other in itertools.product(SMALL, repeat=2)][:200]
        parter = Parter(patterns)
        self.assertEqual(parter.counts("abzz"), [1, 1, 0])
        self.assertEqual(parter.counts("aghr"), [1, 1, 1])
        self.assertEqual(parter.counts("hs"), [0])
        self.assertEqual(Parter(["a1b"] * 200).counts("ab"), [1])

    def test_sixteen_letters(self):
        self.assert_counts(["a1"], "a" * 16, *[1] * 15)
        self.assert_counts([".a2", "3a."], "a" * 16, 2, *[0] * 13, 3)

    def test_kinds_of_values(self):
        numbers = Parter(["a1"]).counts("aba")
        self.assertIs(numbers.__class__, list)
        self.assertEqual({number.__class__ for number in numbers}, {int})

    def test_by_chance(self):
        chance = random.Random(13)
        for _ in range(300):
            patterns = []
            for _ in range(chance.randint(0, 8)):
                signs = list(chance.choice(("", "", ".")))
                signs += chance.choices("ab", k=chance.randint(1, 3))
                signs += chance.choice(("", "", "."))
                places = chance.choices(("", "", "1", "2", "5", "8"), k=len(signs) + 1)
                if "".join(places) == "":
                    places[chance.randrange(len(places))] = "3"
                patterns.append(places[0] + "".join(
                    sign + place for sign, place in zip(signs, places[1:])))
            parter = Parter(patterns)
            word = "".join(chance.choices("ab", k=chance.randint(1, 8)))
            self.assertEqual(parter.counts(word), counts_by_hand(patterns, word))
            self.assertEqual(parter.parts(word), parts_by_hand(patterns, word))


class PartsTest(PartingsCase):
    def test_ordinary_words(self):
        self.assert_parts(["n1t", "n2er"], "win", "ter")
        self.assert_parts([".un1"], "un", "able")
        self.assert_parts(["1ing."], "walk", "ing")
        self.assert_parts([".un1", "1ing.", "1do"], "un", "do", "ing")

    def test_odd_numbers_part_and_even_ones_do_not(self):
        for figure in range(1, 10):
            parts = ["ab", "cd"] if figure in (1, 3, 5, 7, 9) else ["abcd"]
            self.assert_parts([f"b{figure}c"], *parts)

    def test_a_greater_even_number_keeps_a_word_together(self):
        self.assert_parts(["b1c", "b2c"], "abcd")
        self.assert_parts(["b2c", "b3c"], "ab", "cd")

    def test_two_letters_at_the_beginning_and_at_the_end(self):
        self.assert_parts(["a1"], "a")
        self.assert_parts(["a1"], "aa")
        self.assert_parts(["a1"], "aaa")
        self.assert_parts(["a1"], "aa", "aa")
        self.assert_parts(["a1"], "aa", "a", "aa")
        self.assert_parts(["a1"], "aa", *["a"] * 12, "aa")
        self.assert_parts([".a1"], "abcd")
        self.assert_parts([".ab1"], "ab", "cd")
        self.assert_parts(["1d."], "abcd")
        self.assert_parts(["1cd."], "ab", "cd")

    def test_counts_are_told_at_the_ends_as_well(self):
        self.assert_counts(["a1"], "aaaa", 1, 1, 1)

    def test_no_place_to_part(self):
        self.assert_parts(["x1y"], "abcdefgh")

    def test_a_told_list_is_the_askers_own(self):
        parter = Parter(["a1"])
        parts, numbers = parter.parts("aaaa"), parter.counts("aaaa")
        again = parter.parts("aaaa")
        parts.clear()
        numbers[0] = 7
        self.assertEqual(parter.parts("aaaa"), ["aa", "aa"])
        self.assertEqual(parter.counts("aaaa"), [1, 1, 1])
        parter.put("aaaa", ["aaaa"])
        self.assertEqual(again, ["aa", "aa"])

    def test_patterns_that_are_handed_in(self):
        patterns = ["b1", "a1"]
        parter = Parter(patterns)
        self.assertEqual(patterns, ["b1", "a1"])
        patterns.clear()
        self.assertEqual(parter.parts("aaaa"), ["aa", "aa"])
        patterns.append("a2")
        self.assertEqual(parter.parts("aaaa"), ["aa", "aa"])


class ToldTest(PartingsCase):
    def test_a_told_word_parts_just_so(self):
        parter = Parter(["a1"])
        self.assertIsNone(parter.put("aaaa", ["a", "aa", "a"]))
        self.assertEqual(parter.parts("aaaa"), ["a", "aa", "a"])
        self.assertEqual(parter.parts("aaaaa"), ["aa", "a", "aa"])

    def test_counts_are_by_the_patterns_alone(self):
        parter = Parter(["a1"])
        parter.put("aaaa", ["aaaa"])
        self.assertEqual(parter.counts("aaaa"), [1, 1, 1])

    def test_one_piece_and_each_letter(self):
        parter = Parter(["a1"])
        parter.put("aaaa", ["aaaa"])
        self.assertEqual(parter.parts("aaaa"), ["aaaa"])
        parter.put("aaaa", ["a", "a", "a", "a"])
        self.assertEqual(parter.parts("aaaa"), ["a", "a", "a", "a"])
        parter.put("q", ["q"])
        self.assertEqual(parter.parts("q"), ["q"])
        parter.put("q" * 16, ["q"] * 16)
        self.assertEqual(parter.parts("q" * 16), ["q"] * 16)

    def test_told_again_the_later_ones(self):
        parter = Parter([])
        parter.put("walk", ["w", "alk"])
        parter.put("walk", ["wal", "k"])
        self.assertEqual(parter.parts("walk"), ["wal", "k"])
        parter.put("walk", ["walk"])
        self.assertEqual(parter.parts("walk"), ["walk"])

    def test_parts_that_are_handed_in(self):
        parter = Parter([])
        parts = ["wa", "lk"]
        parter.put("walk", parts)
        self.assertEqual(parts, ["wa", "lk"])
        parts.append("s")
        parts[0] = "x"
        self.assertEqual(parter.parts("walk"), ["wa", "lk"])

    def test_parts_that_are_told(self):
        parter = Parter([])
        parter.put("walk", ["wa", "lk"])
        told = parter.parts("walk")
        told.clear()
        self.assertEqual(parter.parts("walk"), ["wa", "lk"])
        again = parter.parts("walk")
        parter.put("walk", ["walk"])
        self.assertEqual(again, ["wa", "lk"])

    def test_parters_have_nothing_in_common(self):
        one, other = Parter([]), Parter([])
        one.put("walk", ["wa", "lk"])
        self.assertEqual(other.parts("walk"), ["walk"])


class RefusalsTest(PartingsCase):
    def test_what_is_no_list_of_patterns(self):
        for thing in [thing for thing in no_texts() if not isinstance(thing, list)] + [
                "", "a1", ("a1",), {"a1": 1}, {"a1"}]:
            with self.subTest(object.__repr__(thing)):
                self.assert_refused(BadPattern, Parter, thing)

    def test_how_many_patterns(self):
        Parter(["a1"] * 200)
        for many in (201, 202, 1000):
            self.assert_refused(BadPattern, Parter, ["a1"] * many)

    def test_what_is_no_text(self):
        for thing in no_texts():
            with self.subTest(object.__repr__(thing)):
                self.assert_no_pattern(thing)

    def test_named_edges(self):
        for text in ("", "a", "ab", ".a", "a.", ".a.", "1", "11", "1.", ".1", "1.1", ".", "..",
                     "..a1", "a1..", "a.1b", "a1.b", "a11b", "1a22", "12a", "a12", ".12a",
                     "a.12", "12.a",
                     "a0b", "0a", "a0", "a1b0", "A1b", "a1B", "a1 b", " a1", "a1 ", "a1\n", "\na1",
                     "a1-b", "abcdefg1", "1abcdefg", ".abcdefg1.", "a1b1c1d1e1f1g", "a" * 7 + "1",
                     "a" * 100000 + "1", "1" * 100000, "a1,b2"):
            with self.subTest(text[:20]):
                self.assert_no_pattern(text)

    def test_named_good_ones(self):
        for text in ("a1", "1a", "9a9", ".1a", "1.a", "a1.", "a.1", "1.2a3.4", "abcdef1", "1abcdef",
                     ".abcdef.1", "1.1a1b1c1d1e1f1.1", "z9z"):
            with self.subTest(text):
                Parter([text])

    def test_another_sign(self):
        for sign in OTHER_SIGNS:
            if sign not in ".123456789":
                for text in (sign, sign + "a1", "a" + sign + "1", "a1" + sign, "a1" + sign + "b"):
                    self.assert_no_pattern(text)

    def test_all_short_texts_of_a_few_signs(self):
        texts = [""]
        for _ in range(5):
            texts = texts + [text + sign for text in texts if len(text) == len(texts[-1])
                             for sign in ".ab190"]
        for text in texts:
            good = is_pattern(text)
            try:
                Parter([text])
            except BadPattern:
                self.assertFalse(good, text)
            else:
                self.assertTrue(good, text)

    def test_what_is_no_word(self):
        parter = Parter(["a1"])
        for thing in NO_WORDS + no_texts():
            with self.subTest(object.__repr__(thing)):
                self.assert_refused(BadWord, parter.counts, thing)
                self.assert_refused(BadWord, parter.parts, thing)
                self.assert_refused(BadWord, parter.put, thing, ["a"])
                self.assert_refused(BadWord, parter.put, thing, [thing])

    def test_what_is_no_parting(self):
        parter = Parter(["a1"])
        parter.put("walk", ["w", "alk"])
        others = [
            [], [""], ["walk", ""], ["", "walk"], ["wa", "", "lk"], ["wal"], ["alk"], ["walks"],
            ["wa", "lks"], ["lk", "wa"], ["Wa", "lk"], ["wa ", "lk"], ["wa", " ", "lk"], ["wa-lk"],
            ["wa", 1, "lk"], ["wa", None, "lk"], ["walk", None], [["walk"]], ["wa", ["lk"]],
            [("wa", "lk")], ["wa", b"lk"], ("wa", "lk"), "walk", {"wa": 1, "lk": 2}, {"walk"},
            ["wa", "lk", "walk"], ["a", "a", "a", "a"], ["walk\n"],
        ]
        for thing in others + no_texts():
            with self.subTest(object.__repr__(thing)):
                self.assert_refused(BadPattern, parter.put, "walk", thing)
        for thing in no_texts():
            with self.subTest(object.__repr__(thing)):
                self.assert_refused(BadPattern, parter.put, "walk", [thing])
                self.assert_refused(BadPattern, parter.put, "walk", ["walk", thing])
                self.assert_refused(BadPattern, parter.put, "walk", ["wa", thing, "lk"])
        self.assertEqual(parter.parts("walk"), ["w", "alk"])

    def test_a_refused_word_parts_by_patterns(self):
        parter = Parter(["a1"])
        self.assert_refused(BadPattern, parter.put, "aaaa", ["a", "a"])
        self.assertEqual(parter.parts("aaaa"), ["aa", "aa"])

    def test_a_bad_word_ahead_of_a_bad_pattern(self):
        parter = Parter([])
        for word in ["", "Walk", None, 7, ["a"]]:
            for parts in [[], [""], ["x"], None, 7, "walk", ("a",)]:
                self.assert_refused(BadWord, parter.put, word, parts)

    def test_what_is_refused_is_not_changed(self):
        patterns = ["b1", "", "a1"]
        self.assert_refused(BadPattern, Parter, patterns)
        self.assertEqual(patterns, ["b1", "", "a1"])
        parts = ["b", "", "a"]
        self.assert_refused(BadPattern, Parter([]).put, "ba", parts)
        self.assertEqual(parts, ["b", "", "a"])


class PlaceTest(unittest.TestCase):
    def test_the_class_and_its_methods_are_defined_in_their_file(self):
        self.assertEqual(Parter.__module__, "wordmend.partings")
        self.assertIs(partings.Parter, Parter)
        for name in METHODS:
            self.assertIn(name, vars(Parter))


if __name__ == "__main__":
    unittest.main()
