import itertools
import re
import string
import unittest

from tests.things import OTHER_SIGNS, SMALL, no_texts
from wordmend import rules
from wordmend.conditions import Condition
from wordmend.errors import BadRule
from wordmend.rules import Beginning, Ending, Rule, rule_of

GREAT = string.ascii_uppercase
LONGEST = "abcdefghijklmnop"


class RulesCase(unittest.TestCase):
    def assert_refused(self, make, *parts):
        with self.assertRaises(BadRule) as caught:
            make(*parts)
        self.assertIs(caught.exception.__class__, BadRule)

    def assert_all_refuse(self, *parts):
        for make in (Rule, Ending, Beginning):
            self.assert_refused(make, *parts)
        self.assert_refused(Ending, *parts, "A")


class FieldsTest(RulesCase):
    def test_ending_and_beginning_stand_straight_under_rule(self):
        self.assertEqual(Rule.__bases__, (object,))
        self.assertEqual(Ending.__bases__, (Rule,))
        self.assertEqual(Beginning.__bases__, (Rule,))

    def test_all_is_defined_in_its_file_and_class(self):
        for one in (Rule, Ending, Beginning):
            self.assertEqual(one.__module__, "wordmend.rules")
            self.assertIs(getattr(rules, one.__name__), one)
            for name in ("use", "text"):
                self.assertIn(name, one.__dict__)

    def test_the_fields_are_as_told(self):
        for one in (Rule("y", "ies", "[^aeiou]y"), Beginning("y", "ies", "[^aeiou]y"),
                    Ending("y", "ies", "[^aeiou]y", "AZ")):
            self.assertEqual((one.cut, one.added), ("y", "ies"))
            self.assertIsInstance(one.condition, Condition)
            self.assertEqual(one.condition.told, "[^aeiou]y")
        self.assertEqual(Ending("y", "ies", "", "AZ").further, "AZ")

    def test_no_further_ones_where_none_are_told(self):
        self.assertEqual(Ending("", "s", "").further, "")
        self.assertEqual(Ending("", "s", "", "").further, "")

    def test_only_an_ending_has_further_ones(self):
        for make in (Rule, Beginning):
            self.assertFalse(hasattr(make("", "s", ""), "further"))
            with self.assertRaises(TypeError):
                make("", "s", "", "A")

    def test_none_of_each_part(self):
        for make in (Rule, Ending, Beginning):
            for parts in (("", "s", ""), ("s", "", ""), ("s", "t", ""), ("", "s", ".")):
                one = make(*parts)
                self.assertEqual((one.cut, one.added, one.condition.told), parts)

    def test_as_many_letters_as_may_be(self):
        for make in (Rule, Ending, Beginning):
            one = make("abcd", "abcdef", "[^abcdefgh][^hgfedcba][^stuvwxyz]")
            self.assertEqual((one.cut, one.added), ("abcd", "abcdef"))
            for cut in range(5):
                for added in range(7):
                    if cut or added:
                        one = make("q" * cut, "z" * added, "")
                        self.assertEqual((one.cut, one.added), ("q" * cut, "z" * added))

    def test_all_further_ones_that_rise(self):
        for many in range(4):
            for names in itertools.combinations(GREAT, many):
                further = "".join(names)
                self.assertEqual(Ending("", "s", "", further).further, further)

    def test_each_object_keeps_its_own(self):
        one, other = Ending("a", "b", "c", "D"), Ending("w", "x", "y", "Z")
        self.assertEqual((one.cut, one.added, one.condition.told, one.further),
                         ("a", "b", "c", "D"))
        self.assertEqual((other.cut, other.added, other.condition.told, other.further),
                         ("w", "x", "y", "Z"))


class RefusedTest(RulesCase):
    def test_a_cut_of_five_and_more(self):
        for many in (5, 6, 7, 17, 100000):
            self.assert_all_refuse("q" * many, "", "")
            self.assert_all_refuse("q" * many, "s", "q")

    def test_a_put_of_seven_and_more(self):
        for many in (7, 8, 17, 100000):
            self.assert_all_refuse("", "q" * many, "")
            self.assert_all_refuse("s", "q" * many, "q")

    def test_cut_and_put_alike(self):
        for part in ("", "a", "ab", "zzz", "abcd"):
            self.assert_all_refuse(part, part, "")
            self.assert_all_refuse(part, part, "a.")

    def test_cut_and_put_of_the_same_letters_may_be_unlike(self):
        for make in (Rule, Ending, Beginning):
            for cut, added in (("ab", "ba"), ("a", "aa"), ("aa", "a"), ("abcd", "abc")):
                self.assertEqual((make(cut, added, "").cut, make(cut, added, "").added),
                                 (cut, added))

    def test_other_signs(self):
        for sign in OTHER_SIGNS:
            for text in (sign, "a" + sign, sign + "a", "a" + sign + "b"):
                with self.subTest(text):
                    self.assert_all_refuse(text, "s", "")
                    self.assert_all_refuse("s", text, "")

    def test_a_condition_that_is_none(self):
        for told in ("abcd", "....", "[", "[]", "[^]", "[aa]", "[abcdefghi]", "]", "^", "A", "0",
                     " ", "a ", "-", "*", "[a.]", "[^a^]"):
            with self.subTest(told):
                self.assert_all_refuse("", "s", told)

    def test_a_condition_is_told_as_a_text(self):
        self.assert_all_refuse("", "s", Condition(""))
        self.assert_all_refuse("", "s", Condition("a"))

    def test_further_ones_that_are_none(self):
        for further in ("BA", "ACB", "CBA", "AA", "AAB", "ABB", "ABA", "ABCD", "AAAA", GREAT,
                        "a", "aB", "Ab", "ab", "0", "1", " ", "A ", " A", "A B", "A,B", "A\n",
                        "\n", "-", "[A]", "A0"):
            with self.subTest(further):
                self.assert_refused(Ending, "", "s", "", further)
        for sign in OTHER_SIGNS:
            if sign not in GREAT:
                self.assert_refused(Ending, "", "s", "", sign)
                self.assert_refused(Ending, "", "s", "", "A" + sign)

    def test_all_texts_of_two_great_letters(self):
        for one, other in itertools.product(GREAT, repeat=2):
            if one < other:
                self.assertEqual(Ending("", "s", "", one + other).further, one + other)
            else:
                self.assert_refused(Ending, "", "s", "", one + other)

    def test_parts_of_another_kind(self):
        for place, make in itertools.product(range(3), (Rule, Ending, Beginning)):
            for thing in no_texts():
                parts = ["y", "ies", "y"]
                parts[place] = thing
                with self.subTest(object.__repr__(thing), place=place, make=make.__name__):
                    self.assert_refused(make, *parts)

    def test_further_ones_of_another_kind(self):
        for thing in no_texts() + [["A"], ("A",), {"A": 1}, b"A", Ending("", "s", "")]:
            with self.subTest(object.__repr__(thing)):
                self.assert_refused(Ending, "", "s", "", thing)

    def test_cut_and_put_alike_and_of_another_kind(self):
        for thing in (0, 1, None, True, False, [], ["a"], (), ("a",), {}, b"", b"a"):
            self.assert_all_refuse(thing, thing, "")
            self.assert_all_refuse(thing, thing, thing)

    def test_what_is_handed_in_is_not_changed(self):
        thing = [["a"], {"b": ["c"]}]
        self.assert_all_refuse(thing, "s", "")
        self.assert_all_refuse("s", thing, "")
        self.assert_all_refuse("", "s", thing)
        self.assert_refused(Ending, "", "s", "", thing)
        self.assertEqual(thing, [["a"], {"b": ["c"]}])


class EndingTest(RulesCase):
    def assert_made(self, one, made):
        for word, come in made.items():
            with self.subTest(one.text(), word=word):
                self.assertEqual(one.use(word), come)

    def test_a_put_alone(self):
        self.assert_made(Ending("", "s", ""), {"a": "as", "walk": "walks", "s": "ss"})

    def test_a_cut_alone(self):
        self.assert_made(Ending("e", "", ""),
                         {"bake": "bak", "ae": "a", "e": None, "walk": None, "eat": None,
                          "ee": "e", "bee": "be"})

    def test_a_cut_and_a_put(self):
        self.assert_made(Ending("y", "ies", ""),
                         {"try": "tries", "play": "plaies", "yy": "yies", "y": None,
                          "yes": None, "walk": None})

    def test_a_condition_is_of_the_last_letters_of_the_whole_word(self):
        self.assert_made(Ending("y", "ies", "[^aeiou]y"),
                         {"try": "tries", "play": None, "ty": "ties", "y": None, "tryst": None,
                          "tyay": None, "tyty": "tyties"})
        self.assert_made(Ending("", "s", "[sx]"), {"box": "boxs", "walk": None})
        self.assert_made(Ending("e", "ing", ".[^e]e"),
                         {"bake": "baking", "ake": "aking", "ke": None, "bee": None, "e": None})
        # What stands there once the cut has fallen away is not asked.
        self.assert_made(Ending("ab", "c", "a"), {"aab": None, "abab": None})
        self.assert_made(Ending("ab", "c", "b"), {"aab": "ac"})

    def test_a_condition_with_more_places_than_the_word_has_letters(self):
        self.assert_made(Ending("", "s", "..."), {"ab": None, "abc": "abcs", "a": None})

    def test_as_many_letters_as_the_cut_and_one_more(self):
        for many in range(1, 5):
            cut = "abcd"[:many]
            one = Ending(cut, "z", "")
            self.assert_made(one, {cut: None, "q" + cut: "qz", cut[1:] + "q": None})
            one = Ending(cut, "", "")
            self.assert_made(one, {cut: None, "q" + cut: "q", "qq" + cut: "qq"})

    def test_fewer_letters_than_the_cut(self):
        self.assert_made(Ending("aaa", "b", ""), {"a": None, "aa": None, "aaa": None,
                                                  "aaaa": "ab"})

    def test_a_word_that_comes_to_sixteen_letters_and_to_seventeen(self):
        for many in range(1, 7):
            one = Ending("", "z" * many, "")
            self.assert_made(one, {LONGEST[many:]: LONGEST[many:] + "z" * many,
                                   LONGEST[many - 1:]: None, LONGEST: None})

    def test_what_falls_away_is_not_counted(self):
        self.assert_made(Ending("p", "z", ""), {LONGEST: LONGEST[:-1] + "z"})
        self.assert_made(Ending("p", "zz", ""), {LONGEST: None, LONGEST[1:]: LONGEST[1:-1] + "zz"})
        self.assert_made(Ending("mnop", "zzzz", ""), {LONGEST: LONGEST[:-4] + "zzzz"})
        self.assert_made(Ending("mnop", "zzzzz", ""), {LONGEST: None})
        self.assert_made(Ending("p", "", ""), {LONGEST: LONGEST[:-1]})

    def test_a_further_class_changes_no_use(self):
        for word in ("try", "play", "y", "walk"):
            self.assertEqual(Ending("y", "ies", "[^aeiou]y", "ABC").use(word),
                             Ending("y", "ies", "[^aeiou]y").use(word))


class BeginningTest(RulesCase):
    def assert_made(self, one, made):
        for word, come in made.items():
            with self.subTest(one.text(), word=word):
                self.assertEqual(one.use(word), come)

    def test_a_put_alone(self):
        self.assert_made(Beginning("", "un", ""), {"a": "una", "do": "undo", "un": "unun"})

    def test_a_cut_alone(self):
        self.assert_made(Beginning("e", "", ""),
                         {"eat": "at", "ea": "a", "e": None, "walk": None, "bake": None,
                          "ee": "e", "eel": "el"})

    def test_a_cut_and_a_put(self):
        self.assert_made(Beginning("be", "to", ""),
                         {"behead": "tohead", "bee": "toe", "be": None, "b": None, "abe": None,
                          "tobe": None})

    def test_a_condition_is_of_the_first_letters_of_the_whole_word(self):
        self.assert_made(Beginning("", "im", "[bmp]"),
                         {"mure": "immure", "part": "impart", "ten": None, "amp": None,
                          "p": "imp"})
        self.assert_made(Beginning("y", "i", "y[^aeiou]"),
                         {"yt": "it", "ya": None, "y": None, "ytya": "itya", "ayt": None})
        self.assert_made(Beginning("ab", "c", "b"), {"abb": None, "abab": None})
        self.assert_made(Beginning("ab", "c", "a"), {"abb": "cb"})

    def test_a_condition_with_more_places_than_the_word_has_letters(self):
        self.assert_made(Beginning("", "s", "..."), {"ab": None, "abc": "sabc", "a": None})

    def test_as_many_letters_as_the_cut_and_one_more(self):
        for many in range(1, 5):
            cut = "abcd"[:many]
            self.assert_made(Beginning(cut, "z", ""), {cut: None, cut + "q": "zq",
                                                       "q" + cut[:-1]: None})
            self.assert_made(Beginning(cut, "", ""), {cut: None, cut + "q": "q",
                                                      cut + "qq": "qq"})

    def test_a_word_that_comes_to_sixteen_letters_and_to_seventeen(self):
        for many in range(1, 7):
            one = Beginning("", "z" * many, "")
            self.assert_made(one, {LONGEST[many:]: "z" * many + LONGEST[many:],
                                   LONGEST[many - 1:]: None, LONGEST: None})

    def test_what_falls_away_is_not_counted(self):
        self.assert_made(Beginning("a", "z", ""), {LONGEST: "z" + LONGEST[1:]})
        self.assert_made(Beginning("a", "zz", ""), {LONGEST: None,
                                                    LONGEST[:-1]: "zz" + LONGEST[1:-1]})
        self.assert_made(Beginning("abcd", "zzzz", ""), {LONGEST: "zzzz" + LONGEST[4:]})
        self.assert_made(Beginning("abcd", "zzzzz", ""), {LONGEST: None})


class UseTest(RulesCase):
    def test_a_plain_rule_makes_nothing(self):
        for parts in (("", "s", ""), ("a", "", ""), ("a", "b", "a"), ("a", "b", "[^b]")):
            for word in ("a", "ba", "ab", "walka", LONGEST):
                self.assertIsNone(Rule(*parts).use(word))

    def test_all_short_words_by_another_way(self):
        words = ["".join(some) for many in range(1, 5)
                 for some in itertools.product("ab", repeat=many)]
        parts = ["".join(some) for many in range(3)
                 for some in itertools.product("ab", repeat=many)]
        for cut, added, told in itertools.product(parts, parts, ["", "a", ".b", "[^a]", "b[ab]."]):
            if cut == added:
                continue
            ending, beginning = Ending(cut, added, told), Beginning(cut, added, told)
            for word in words:
                come = None
                if re.search(f"(?:{told})$", word) and re.search(f".{cut}$", word):
                    come = re.sub(f"{cut}$", added, word, count=1)
                self.assertEqual(ending.use(word), come)
                come = None
                if re.match(told, word) and re.match(f"{cut}.", word):
                    come = re.sub(f"^{cut}", added, word, count=1)
                self.assertEqual(beginning.use(word), come)

    def test_used_again_the_word_is_the_same_and_no_field_changes(self):
        for one in (Ending("y", "ies", "[^a]y", "AB"), Beginning("t", "ies", "t[^a]")):
            first = one.use("try")
            self.assertIsNone(one.use("walk"))
            self.assertEqual(one.use("try"), first)
            self.assertEqual(one.added, "ies")
            self.assertIn(one.condition.told, ("[^a]y", "t[^a]"))


class TextTest(RulesCase):
    def test_a_plain_rule_and_a_beginning_write_three_parts(self):
        for make in (Rule, Beginning):
            self.assertEqual(make("y", "ies", "[^aeiou]y").text(), "y ies [^aeiou]y")
            self.assertEqual(make("", "s", "").text(), "0 s 0")
            self.assertEqual(make("e", "", "").text(), "e 0 0")
            self.assertEqual(make("e", "", "[^e]e").text(), "e 0 [^e]e")
            self.assertEqual(make("", "s", "..").text(), "0 s ..")

    def test_an_ending_writes_four_parts(self):
        self.assertEqual(Ending("y", "ies", "[^aeiou]y", "AB").text(), "y ies [^aeiou]y AB")
        self.assertEqual(Ending("y", "ies", "[^aeiou]y").text(), "y ies [^aeiou]y 0")
        self.assertEqual(Ending("", "s", "").text(), "0 s 0 0")
        self.assertEqual(Ending("", "s", "", "Z").text(), "0 s 0 Z")
        self.assertEqual(Ending("e", "", "", "AMZ").text(), "e 0 0 AMZ")

    def test_a_condition_is_written_as_it_was_told(self):
        self.assertEqual(Ending("", "s", "[cab]").text(), "0 s [cab] 0")
        self.assertEqual(Beginning("", "s", "[a]").text(), "0 s [a]")


class RuleOfTest(RulesCase):
    def test_each_text_that_a_rule_writes_is_read(self):
        for told in ("0 s 0 0", "y ies [^aeiou]y AB", "e 0 0 Z", "abcd abcdef [a].b ABC"):
            one = rule_of("ending", told)
            self.assertIs(one.__class__, Ending)
            self.assertEqual(one.text(), told)
        for told in ("0 un 0", "y ies [^aeiou]y", "e 0 0", "abcd abcdef [a].b"):
            one = rule_of("beginning", told)
            self.assertIs(one.__class__, Beginning)
            self.assertEqual(one.text(), told)

    def test_what_no_rule_of_the_kind_writes_is_refused(self):
        for told in ("", "0", "0 s", "0 s 0", "0 s 0 0 0", "0 s 0 0 ", " 0 s 0 0", "0  s 0 0",
                     "0 s  0", " s 0 0", "0 s 0 ", "0 s 0\t0", "0 0 0 0", "a a 0 0", "00 s 0 0",
                     "0 s 00 0", "0 s 0 00", "0 s 0 BA", "0 s 0 a", "abcde s 0 0",
                     "0 abcdefg 0 0", "0 s [] 0", "0 s abcd 0", "A s 0 0", "0 s 0 0\n"):
            with self.subTest(told):
                self.assert_refused(rule_of, "ending", told)
        for told in ("", "0", "0 un", "0 un 0 0", "0 un 0 A", "0 un 0 ", " 0 un 0", "0  un 0",
                     " un 0", "0 un ", "0 0 0", "a a 0", "0 un [", "0 un 0\n"):
            with self.subTest(told):
                self.assert_refused(rule_of, "beginning", told)
        self.assert_refused(rule_of, "", "0 s 0")
        self.assert_refused(rule_of, "Ending", "0 s 0 0")


if __name__ == "__main__":
    unittest.main()
