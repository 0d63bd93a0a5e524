import itertools
import re
import unittest

from tests.things import OTHER_SIGNS, SIGNS, SMALL, no_texts
from wordmend.conditions import Condition
from wordmend.errors import BadRule

SORTS = ["a", ".", "[ab]", "[^ab]"]
PLACE = r"(?:[a-z]|\.|\[\^?[a-z]{1,8}\])"


def texts_of(signs, most):
    """All texts of at most so many of these signs."""
    return ["".join(some) for many in range(most + 1)
            for some in itertools.product(signs, repeat=many)]


def is_condition(text):
    """What a condition is, once more, by another way."""
    if re.fullmatch(PLACE + "{0,3}", text) is None:
        return False
    inner = re.findall(r"\[\^?([a-z]+)\]", text)
    return all(len(set(letters)) == len(letters) for letters in inner)


class ConditionsCase(unittest.TestCase):
    def assert_kept(self, told):
        one = Condition(told)
        self.assertEqual(one.told, told)
        self.assertIsInstance(one.told, str)

    def assert_refused(self, thing):
        with self.assertRaises(BadRule) as caught:
            Condition(thing)
        self.assertIs(caught.exception.__class__, BadRule)

    def assert_answers(self, told, word, ends, begins):
        one = Condition(told)
        self.assertIs(one.ends(word), ends, (told, word))
        self.assertIs(one.begins(word), begins, (told, word))


class KeptTest(ConditionsCase):
    def test_none_to_three_places_of_all_sorts(self):
        for many in range(4):
            for sorts in itertools.product(SORTS, repeat=many):
                self.assert_kept("".join(sorts))

    def test_each_letter_alone_and_in_brackets(self):
        for letter in SMALL:
            for told in (letter, letter * 3, f"[{letter}]", f"[^{letter}]"):
                self.assert_kept(told)

    def test_brackets_with_one_to_eight_letters_in_any_order(self):
        for many in range(1, 9):
            for letters in (SMALL[:many], SMALL[-many:], SMALL[:many][::-1],
                            SMALL[3:3 + many][::-1], "qzmaxkbt"[:many]):
                for told in (f"[{letters}]", f"[^{letters}]", f"a[{letters}].",
                             f"[{letters}][^{letters}][{letters}]"):
                    with self.subTest(told):
                        self.assert_kept(told)

    def test_the_longest_one(self):
        self.assert_kept("[^abcdefgh][^hgfedcba][^stuvwxyz]")

    def test_the_text_is_kept_as_it_was_told(self):
        self.assertEqual(Condition("[cab]").told, "[cab]")
        self.assertEqual(Condition("[a]").told, "[a]")
        self.assertEqual(Condition("").told, "")

    def test_each_object_keeps_its_own(self):
        one, other = Condition("a"), Condition("[^b]")
        self.assertEqual((one.told, other.told), ("a", "[^b]"))
        self.assertIs(one.ends("b"), False)
        self.assertIs(other.ends("a"), True)


class RefusedTest(ConditionsCase):
    def test_a_place_too_many(self):
        for sorts in itertools.product(SORTS, repeat=4):
            self.assert_refused("".join(sorts))
        for told in ("abcde", "." * 5, "." * 100000, "[a]" * 4, "[abcdefgh]" * 1000):
            self.assert_refused(told)

    def test_brackets_with_none(self):
        for told in ("[]", "[^]", "a[]", "[]a", "[].", "[^]a", "[][]", "[a][]", "[][a]", "ab[]"):
            with self.subTest(told):
                self.assert_refused(told)

    def test_brackets_with_nine_and_more(self):
        for many in (9, 10, 26):
            for told in (f"[{SMALL[:many]}]", f"[^{SMALL[:many]}]", f"a[{SMALL[:many]}]"):
                with self.subTest(told):
                    self.assert_refused(told)

    def test_brackets_with_a_letter_twice(self):
        for told in ("[aa]", "[^aa]", "[aba]", "[^aba]", "[abb]", "[aab]", "[abcdefga]",
                     "[^abcdefgg]", "[abcdefgha]", "a[bb]", "[ab][cc]", "[aaaaaaaaa]"):
            with self.subTest(told):
                self.assert_refused(told)

    def test_a_letter_may_stand_again_in_other_brackets(self):
        self.assert_kept("[ab][ba][^ab]")

    def test_open_brackets(self):
        for told in ("[", "[a", "[^", "[^a", "a[", "a[b", "[a][", "[a][b", "[abcdefgh", "ab[c",
                     "[a.", "[."):
            with self.subTest(told):
                self.assert_refused(told)

    def test_brackets_that_were_not_opened(self):
        for told in ("]", "a]", "]a", "[a]]", "][", "]a[", ".]", "[a]b]", "[]]", "[^]]", "^]"):
            with self.subTest(told):
                self.assert_refused(told)

    def test_brackets_within_brackets(self):
        for told in ("[[]]", "[[a]]", "[a[b]]", "[a[b]c]", "[a[b]", "[[a]", "[^[a]]", "[[^a]]",
                     "[[", "[a[", "[ab[]"):
            with self.subTest(told):
                self.assert_refused(told)

    def test_a_sign_that_is_no_small_letter(self):
        for sign in OTHER_SIGNS:
            if sign == ".":
                continue
            for told in (sign, sign + "a", "a" + sign, "a" + sign + "b", sign + "[a]",
                         "[a]" + sign, "[a" + sign + "]", "[a" + sign + "b]", "[^a" + sign + "]",
                         "[^" + sign + "a]", "[^" + sign + "]"):
                with self.subTest(told):
                    self.assert_refused(told)

    def test_a_point_in_brackets(self):
        for told in ("[.]", "[^.]", "[a.]", "[.a]", "[^a.]", "[^.a]"):
            with self.subTest(told):
                self.assert_refused(told)

    def test_a_sign_first_in_brackets(self):
        for sign in OTHER_SIGNS:
            if sign != "^":
                self.assert_refused("[" + sign + "a]")
        self.assert_kept("[^a]")

    def test_the_sign_for_all_others_elsewhere(self):
        for told in ("^", "^^", "^a", "a^", "[^]", "[^^]", "[^^a]", "[a^]", "[a^b]", "[^a^]",
                     "^[a]", "[a]^", "[^a^b]", "[^a]^"):
            with self.subTest(told):
                self.assert_refused(told)

    def test_blanks_and_line_ends(self):
        for told in (" ", "\n", "\t", " a", "a ", "a\n", "\na", "[a]\n", "[a\n]", "[a b]",
                     "[ ]", "a b"):
            with self.subTest(told):
                self.assert_refused(told)

    def test_all_short_texts_of_a_few_signs(self):
        for text in texts_of("ab.[]^A", 6):
            if is_condition(text):
                self.assert_kept(text)
            else:
                self.assert_refused(text)

    def test_all_texts_of_two_signs(self):
        for text in texts_of(SIGNS, 2):
            if is_condition(text):
                self.assert_kept(text)
            else:
                self.assert_refused(text)

    def test_what_is_no_text(self):
        for thing in no_texts():
            with self.subTest(object.__repr__(thing)):
                self.assert_refused(thing)

    def test_conditions_in_a_list_or_as_another_thing_are_none(self):
        for thing in (["a", "b"], (".",), {"a": "b"}, b"[a]", Condition("a"), Condition):
            self.assert_refused(thing)

    def test_what_is_handed_in_is_not_changed(self):
        things = [["[a]", "."], {".": ["a"]}, [[], ["[", ("]", [])]]]
        for thing in things:
            self.assert_refused(thing)
        self.assertEqual(things, [["[a]", "."], {".": ["a"]}, [[], ["[", ("]", [])]]])


class FitsTest(ConditionsCase):
    def test_no_place_fits_every_word(self):
        for word in ("a", "zz", "walk", "abcdefghijklmnop"):
            self.assert_answers("", word, True, True)

    def test_a_letter_lets_it_alone(self):
        for letter in SMALL:
            for other in SMALL:
                self.assert_answers(letter, other, letter == other, letter == other)

    def test_a_point_lets_any(self):
        for letter in SMALL:
            self.assert_answers(".", letter, True, True)

    def test_brackets_let_these_or_all_others(self):
        for letters in ("a", "z", "ab", "ba", "yz", "aeiou", "hgfedcba", "stuvwxyz"):
            for letter in SMALL:
                let = letter in letters
                self.assert_answers(f"[{letters}]", letter, let, let)
                self.assert_answers(f"[^{letters}]", letter, not let, not let)

    def test_fewer_letters_than_places(self):
        for told in ("aa", "..", "aaa", "...", "[a][a]", "[^b][^b][^b]", ".a.", "a[a].", "[^b]a"):
            self.assert_answers(told, "a", False, False)
        for told in ("aaa", "...", "[a][a][a]", "[^b][^b][^b]", "a.[^b]"):
            self.assert_answers(told, "aa", False, False)

    def test_just_as_many_letters(self):
        for told, word in (("a", "a"), ("ab", "ab"), ("..", "qq"), ("abc", "abc"), ("...", "xyz"),
                           ("[ab]c", "bc"), ("[^a].[xyz]", "bbx"), ("c[^vw]t", "cat")):
            self.assert_answers(told, word, True, True)

    def test_more_letters_the_last_ones_count_or_the_first_ones(self):
        self.assert_answers("y", "try", True, False)
        self.assert_answers("t", "try", False, True)
        self.assert_answers("[^aeiou]y", "carry", True, False)
        self.assert_answers("[^aeiou]y", "play", False, False)
        self.assert_answers("[^aeiou]y", "byway", False, True)
        self.assert_answers("un.", "under", False, True)
        self.assert_answers("un.", "begun", False, False)
        self.assert_answers("un.", "hunt", True, False)
        self.assert_answers("ab", "abba", False, True)
        self.assert_answers("ba", "abba", True, False)
        self.assert_answers("ab", "xabx", False, False)
        self.assert_answers("abc", "abcdefghijkmnabc", True, True)

    def test_places_go_from_left_to_right(self):
        self.assert_answers("abc", "abc", True, True)
        self.assert_answers("abc", "cba", False, False)
        self.assert_answers("abc", "xxabc", True, False)
        self.assert_answers("abc", "abcxx", False, True)
        self.assert_answers("abc", "cbaxxcba", False, False)

    def test_one_place_that_does_not_fit(self):
        for told, fit, wrong in (("abc", "abc", "xyz"), ("[ab][cd][ef]", "bde", "cea"),
                                 ("[^ab][^cd][^ef]", "qrs", "bce"), ("a[bc][^de]", "acq", "bae")):
            for word in (fit, "qq" + fit, "zzzz" + fit):
                self.assertIs(Condition(told).ends(word), True)
            for word in (fit, fit + "qq", fit + "zzzz"):
                self.assertIs(Condition(told).begins(word), True)
            for place in range(3):
                word = fit[:place] + wrong[place] + fit[place + 1:]
                self.assert_answers(told, word, False, False)
                self.assertIs(Condition(told).ends("qq" + word), False)
                self.assertIs(Condition(told).begins(word + "qq"), False)

    def test_all_conditions_of_few_places_and_all_short_words(self):
        words = texts_of("abc", 4)[1:]
        for many in range(4):
            for sorts in itertools.product(["a", "b", ".", "[ca]", "[^b]"], repeat=many):
                told = "".join(sorts)
                one = Condition(told)
                for word in words:
                    self.assertIs(one.ends(word), re.search(f"(?:{told})$", word) is not None)
                    self.assertIs(one.begins(word), re.match(told, word) is not None)

    def test_asked_again_the_answer_is_the_same(self):
        one = Condition("[^a]b")
        for _ in range(2):
            self.assertIs(one.ends("ccb"), True)
            self.assertIs(one.begins("ccb"), False)
            self.assertIs(one.begins("cbc"), True)
            self.assertEqual(one.told, "[^a]b")

    def test_what_is_refused_changes_nothing(self):
        one = Condition("a.")
        self.assert_refused("[b")
        self.assertEqual(one.told, "a.")
        self.assertIs(one.ends("ab"), True)


class PlaceTest(unittest.TestCase):
    def test_all_is_defined_in_its_file_and_class(self):
        self.assertEqual(Condition.__module__, "wordmend.conditions")
        for name in ("ends", "begins"):
            self.assertIn(name, Condition.__dict__)


if __name__ == "__main__":
    unittest.main()
