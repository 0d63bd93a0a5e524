import itertools
import random
import re
import unittest

from tests.things import OTHER_SIGNS, SMALL, no_texts, no_wholes
from wordmend import pages
from wordmend.errors import BadWord, MendError, NoPlace
from wordmend.machines import Machine
from wordmend.pages import Page

WORDS = ["a", "i", "go", "goes", "the", "walk", "abcdefghijklmnop"]
METHODS = ["text", "wrong", "own", "mend", "back"]
NO_WORDS = ["", "Walk", "walk ", " walk", "walk\n", "wa lk", "0", "q" * 17]
BETWEEN = "".join(sign for sign in OTHER_SIGNS if not sign.isalpha())


def wrong_by_hand(words, text):
    """The wrong stretches of a text, found by another way."""
    found = []
    for match in re.finditer("[A-Za-z]+", text):
        stretch = match.group()
        written = re.fullmatch("[a-z]+|[A-Z][a-z]*|[A-Z]+", stretch) is not None
        if len(stretch) > 16 or stretch.lower() not in words or not written:
            found.append((match.start(), match.end(), stretch))
    return found


class PagesCase(unittest.TestCase):
    def assert_wrong(self, text, *rows):
        page = Page(Machine(WORDS), text)
        self.assertEqual(page.wrong(), list(rows))
        self.assertEqual(page.text(), text)

    def assert_right(self, *texts):
        for text in texts:
            self.assert_wrong(text)

    def assert_mended(self, stretch, word, becomes):
        """A wrong stretch becomes a word, alone and amid others."""
        for ahead, behind in (("", ""), ("go ", ""), ("", " go"), ("(", ")"), ("go\n", "\tThe.")):
            page = Page(Machine(WORDS), ahead + stretch + behind)
            self.assertIsNone(page.mend(len(ahead), word))
            self.assertEqual(page.text(), ahead + becomes + behind)
            self.assertIsNone(page.back())
            self.assertEqual(page.text(), ahead + stretch + behind)

    def assert_refused(self, refusal, deed, *told):
        with self.assertRaises(MendError) as caught:
            deed(*told)
        self.assertIs(caught.exception.__class__, refusal)


class WrongTest(PagesCase):
    def test_ordinary_texts(self):
        self.assert_right("walk", "the walk goes", "The walk goes.", "go, go, GO!")
        self.assert_wrong("teh walk", (0, 3, "teh"))
        self.assert_wrong("the wlak", (4, 8, "wlak"))
        self.assert_wrong("The wlak gose, the walk geos.", (4, 8, "wlak"), (9, 13, "gose"),
                          (24, 28, "geos"))

    def test_texts_without_a_letter(self):
        self.assert_right("", " ", "\n", "\t", "1234", ".,;:!?", " \n \t ", BETWEEN)

    def test_small_and_great_letters(self):
        self.assert_right("go", "Go", "GO", "walk", "Walk", "WALK", "a", "A", "i", "I")
        for stretch in ("gO", "wALK", "waLk", "walK", "WaLK", "WAlk", "WALk", "wALk", "WalK"):
            self.assert_wrong(stretch, (0, len(stretch), stretch))

    def test_all_ways_to_write_a_word(self):
        machine = Machine(WORDS)
        for word in ("a", "go", "the", "walk"):
            for great in itertools.product((False, True), repeat=len(word)):
                stretch = "".join(letter.upper() if up else letter
                                  for letter, up in zip(word, great))
                right = not any(great) or all(great) or (great[0] and not any(great[1:]))
                self.assertEqual(Page(machine, stretch).wrong() == [], right)

    def test_one_letter(self):
        self.assert_right("a", "A", "i I a A")
        self.assert_wrong("b", (0, 1, "b"))
        self.assert_wrong("B", (0, 1, "B"))
        self.assert_wrong("b B", (0, 1, "b"), (2, 3, "B"))

    def test_sixteen_letters_and_more(self):
        long = "abcdefghijklmnop"
        self.assert_right(long, long.upper(), long.capitalize())
        self.assert_wrong(long + "q", (0, 17, long + "q"))
        self.assert_wrong(long + long, (0, 32, long + long))
        self.assert_wrong("go" * 8, (0, 16, "go" * 8))
        self.assert_wrong("x" * 16, (0, 16, "x" * 16))
        self.assert_wrong("x" * 100000, (0, 100000, "x" * 100000))

    def test_stretches_are_as_long_as_can_be(self):
        self.assert_wrong("gogo", (0, 4, "gogo"))
        self.assert_wrong("go-x-go", (3, 4, "x"))
        self.assert_wrong("goGo", (0, 4, "goGo"))
        self.assert_wrong("walkx", (0, 5, "walkx"))
        self.assert_wrong("xwalk", (0, 5, "xwalk"))

    def test_each_other_sign_ends_a_stretch(self):
        for sign in BETWEEN:
            self.assert_right("go" + sign + "the", sign + "go", "go" + sign, sign * 3 + "go")
            self.assert_wrong("xx" + sign + "yyy", (0, 2, "xx"), (3, 6, "yyy"))
            self.assert_wrong(sign + "xx" + sign + sign + "go" + sign + "y",
                              (1, 3, "xx"), (8, 9, "y"))

    def test_each_letter_is_of_a_stretch(self):
        machine = Machine(["go"])
        for letter in SMALL + SMALL.upper():
            self.assertEqual(Page(machine, "go" + letter).wrong(), [(0, 3, "go" + letter)])
            self.assertEqual(Page(machine, "-" + letter + "-").wrong(), [(1, 2, letter)])

    def test_figures_and_other_signs_amid(self):
        self.assert_right("go1go", "go_the", "the-walk", "a'a", "go.go")
        self.assert_wrong("don't go", (0, 3, "don"), (4, 5, "t"))

    def test_the_same_stretch_twice(self):
        self.assert_wrong("xx go xx", (0, 2, "xx"), (6, 8, "xx"))

    def test_no_words_at_all(self):
        self.assertEqual(Page(Machine(), "Go a").wrong(), [(0, 2, "Go"), (3, 4, "a")])
        self.assertEqual(Page(Machine(), "").wrong(), [])

    def test_a_machine_that_changes_behind_a_page(self):
        machine = Machine(["go"])
        page = Page(machine, "go walk")
        self.assertEqual(page.wrong(), [(3, 7, "walk")])
        machine.put("walk")
        self.assertEqual(page.wrong(), [])
        machine.take("go")
        self.assertEqual(page.wrong(), [(0, 2, "go")])
        machine.take("walk")
        self.assertEqual(page.wrong(), [(0, 2, "go"), (3, 7, "walk")])
        machine.put("go")
        self.assert_refused(NoPlace, page.mend, 0, "go")
        page.mend(3, "talk")
        self.assertEqual(page.text(), "go talk")
        machine.put("walk")
        page.back()
        self.assertEqual(page.text(), "go walk")
        self.assert_refused(NoPlace, page.mend, 3, "go")

    def test_by_chance(self):
        chance = random.Random(11)
        words = ["a", "b", "ab", "ba", "aab", "abba"]
        machine = Machine(words)
        for _ in range(300):
            text = "".join(chance.choices("aabbAB .\n\t1", k=chance.randint(0, 40)))
            page = Page(machine, text)
            self.assertEqual(page.wrong(), wrong_by_hand(words, text))

    def test_kinds_of_values(self):
        rows = Page(Machine(), "go Walk").wrong()
        self.assertIs(rows.__class__, list)
        for row in rows:
            self.assertIs(row.__class__, tuple)
            self.assertEqual([part.__class__ for part in row], [int, int, str])
        self.assertEqual(Page(Machine(), "").wrong().__class__, list)

    def test_a_told_list_is_the_askers_own(self):
        page = Page(Machine(), "go walk")
        rows = page.wrong()
        kept = list(rows)
        again = page.wrong()
        rows.clear()
        self.assertEqual(page.wrong(), kept)
        page.mend(0, "walk")
        self.assertEqual(again, kept)

    def test_the_machine_is_not_changed(self):
        machine = Machine(WORDS)
        rows = machine.rows()
        page = Page(machine, "xx yy")
        page.own("xx")
        page.mend(3, "zz")
        page.back()
        page.wrong()
        self.assertEqual(machine.rows(), rows)


class OwnTest(PagesCase):
    def test_own_words_are_right(self):
        page = Page(Machine(WORDS), "teh Teh TEH tEH tehs")
        self.assertIsNone(page.own("teh"))
        self.assertEqual(page.wrong(), [(12, 15, "tEH"), (16, 20, "tehs")])
        self.assertEqual(page.text(), "teh Teh TEH tEH tehs")
        self.assertIsNone(page.own("tehs"))
        self.assertEqual(page.wrong(), [(12, 15, "tEH")])

    def test_own_words_told_twice_and_of_the_machine(self):
        page = Page(Machine(WORDS), "teh go")
        for _ in range(3):
            self.assertIsNone(page.own("teh"))
            self.assertIsNone(page.own("go"))
        self.assertEqual(page.wrong(), [])

    def test_an_own_word_stays_when_the_machine_takes_it(self):
        machine = Machine(["go", "walk"])
        page = Page(machine, "go walk")
        page.own("go")
        machine.take("go")
        machine.take("walk")
        self.assertEqual(page.wrong(), [(3, 7, "walk")])

    def test_own_words_of_one_page_alone(self):
        machine = Machine(WORDS)
        one, other = Page(machine, "teh"), Page(machine, "teh")
        one.own("teh")
        self.assertEqual(one.wrong(), [])
        self.assertEqual(other.wrong(), [(0, 3, "teh")])
        self.assertIs(machine.has("teh"), False)

    def test_an_own_word_cannot_be_mended(self):
        page = Page(Machine(WORDS), "teh teh")
        page.own("teh")
        self.assert_refused(NoPlace, page.mend, 0, "the")

    def test_own_words_stay_when_a_mend_is_taken_back(self):
        page = Page(Machine(WORDS), "teh xx")
        page.mend(4, "go")
        page.own("teh")
        page.back()
        self.assertEqual(page.wrong(), [(4, 6, "xx")])

    def test_sixteen_letters(self):
        page = Page(Machine(), "q" * 16 + " " + "q" * 17)
        page.own("q" * 16)
        self.assertEqual(page.wrong(), [(17, 34, "q" * 17)])

    def test_what_is_no_word(self):
        page = Page(Machine(WORDS), "teh xx")
        for thing in NO_WORDS + no_texts():
            with self.subTest(object.__repr__(thing)):
                self.assert_refused(BadWord, page.own, thing)
        self.assertEqual(page.wrong(), [(0, 3, "teh"), (4, 6, "xx")])


class MendTest(PagesCase):
    def test_small_stretches(self):
        self.assert_mended("teh", "the", "the")
        self.assert_mended("x", "walk", "walk")
        self.assert_mended("xxxxx", "a", "a")
        self.assert_mended("x" * 30, "walk", "walk")

    def test_a_great_first_letter(self):
        self.assert_mended("Teh", "the", "The")
        self.assert_mended("Teh", "a", "A")
        self.assert_mended("Xy", "abcdefghijklmnop", "Abcdefghijklmnop")

    def test_great_stretches(self):
        self.assert_mended("TEH", "the", "THE")
        self.assert_mended("XY", "walk", "WALK")
        self.assert_mended("TEH", "a", "A")
        self.assert_mended("X" * 17, "go", "GO")

    def test_one_great_letter_is_a_great_first_one(self):
        self.assert_mended("X", "walk", "Walk")
        self.assert_mended("X", "go", "Go")
        self.assert_mended("X", "a", "A")

    def test_half_great_stretches(self):
        self.assert_mended("tEH", "the", "the")
        self.assert_mended("teH", "the", "the")
        self.assert_mended("TeH", "the", "The")
        self.assert_mended("THe", "the", "The")
        self.assert_mended("gO", "go", "go")
        self.assert_mended("GoEs", "goes", "Goes")

    def test_a_word_that_is_no_right_one(self):
        page = Page(Machine(WORDS), "teh")
        page.mend(0, "hte")
        self.assertEqual(page.wrong(), [(0, 3, "hte")])
        page.mend(0, "the")
        self.assertEqual(page.wrong(), [])
        page.back()
        self.assertEqual(page.text(), "hte")
        page.back()
        self.assertEqual(page.text(), "teh")

    def test_the_same_word_again(self):
        page = Page(Machine(WORDS), "teh")
        page.mend(0, "teh")
        self.assertEqual(page.text(), "teh")
        page.back()
        self.assert_refused(NoPlace, page.back)

    def test_places_go_with_the_text(self):
        page = Page(Machine(WORDS), "xx, xx; Xx. XX")
        page.mend(4, "walk")
        self.assertEqual(page.text(), "xx, walk; Xx. XX")
        self.assertEqual(page.wrong(), [(0, 2, "xx"), (10, 12, "Xx"), (14, 16, "XX")])
        page.mend(14, "a")
        self.assertEqual(page.text(), "xx, walk; Xx. A")
        page.mend(10, "goes")
        self.assertEqual(page.text(), "xx, walk; Goes. A")
        page.mend(0, "the")
        self.assertEqual(page.text(), "the, walk; Goes. A")
        self.assertEqual(page.wrong(), [])
        for text in ("xx, walk; Goes. A", "xx, walk; Xx. A", "xx, walk; Xx. XX", "xx, xx; Xx. XX"):
            self.assertIsNone(page.back())
            self.assertEqual(page.text(), text)
        self.assert_refused(NoPlace, page.back)

    def test_mends_behind_mends_that_were_taken_back(self):
        page = Page(Machine(WORDS), "xx yy")
        page.mend(0, "walk")
        page.back()
        page.mend(3, "go")
        self.assertEqual(page.text(), "xx go")
        page.back()
        self.assertEqual(page.text(), "xx yy")
        self.assert_refused(NoPlace, page.back)

    def test_nothing_to_take_back(self):
        page = Page(Machine(WORDS), "xx yy")
        self.assert_refused(NoPlace, page.back)
        self.assert_refused(BadWord, page.mend, 0, "")
        self.assert_refused(NoPlace, page.mend, 1, "go")
        self.assert_refused(NoPlace, page.back)
        self.assertEqual(page.text(), "xx yy")

    def test_pages_have_nothing_in_common(self):
        machine = Machine(WORDS)
        one, other = Page(machine, "xx"), Page(machine, "xx")
        one.mend(0, "go")
        self.assertEqual(other.text(), "xx")
        self.assert_refused(NoPlace, other.back)

    def test_by_chance(self):
        chance = random.Random(12)
        words = ["a", "ab", "ba", "abba"]
        machine = Machine(words)
        for _ in range(60):
            text = "".join(chance.choices("aabbAB .1", k=30))
            page = Page(machine, text)
            texts = [text]
            for _ in range(20):
                rows = page.wrong()
                if rows and chance.random() < 0.7:
                    begin, behind, _ = chance.choice(rows)
                    page.mend(begin, chance.choice(words))
                    self.assertTrue(page.text().startswith(texts[-1][:begin]))
                    self.assertTrue(page.text().endswith(texts[-1][behind:]))
                    texts.append(page.text())
                elif len(texts) > 1:
                    page.back()
                    texts.pop()
                    self.assertEqual(page.text(), texts[-1])
            while len(texts) > 1:
                page.back()
                texts.pop()
                self.assertEqual(page.text(), texts[-1])
            self.assert_refused(NoPlace, page.back)


class RefusalsTest(PagesCase):
    TEXT = "The wlak xx gO"

    def assert_as_it_was(self, page):
        self.assertEqual(page.text(), self.TEXT)
        self.assertEqual(page.wrong(), [(4, 8, "wlak"), (9, 11, "xx"), (12, 14, "gO")])
        self.assert_refused(NoPlace, page.back)

    def test_what_is_no_word(self):
        page = Page(Machine(WORDS), self.TEXT)
        for thing in NO_WORDS + no_texts():
            with self.subTest(object.__repr__(thing)):
                self.assert_refused(BadWord, page.mend, 4, thing)
        for sign in OTHER_SIGNS:
            self.assert_refused(BadWord, page.mend, 4, "go" + sign)
        self.assert_as_it_was(page)

    def test_what_is_no_beginning_of_a_wrong_stretch(self):
        page = Page(Machine(WORDS), self.TEXT)
        for place in range(-20, 40):
            if place not in (4, 9, 12):
                self.assert_refused(NoPlace, page.mend, place, "walk")
        for place in (10 ** 9, -10 ** 9, 10 ** 5000):
            self.assert_refused(NoPlace, page.mend, place, "walk")
        self.assert_as_it_was(page)

    def test_what_is_no_place(self):
        page = Page(Machine(WORDS), self.TEXT)
        for thing in no_wholes() + ["4", (4,), [4], (4, 8, "wlak")]:
            with self.subTest(object.__repr__(thing)):
                self.assert_refused(NoPlace, page.mend, thing, "walk")
        self.assert_as_it_was(page)

    def test_true_and_false_are_no_places(self):
        page = Page(Machine(WORDS), "-xx")
        self.assert_refused(NoPlace, page.mend, True, "go")
        page.mend(1, "go")
        page = Page(Machine(WORDS), "xx")
        self.assert_refused(NoPlace, page.mend, False, "go")
        page.mend(0, "go")

    def test_a_bad_word_ahead_of_no_place(self):
        page = Page(Machine(WORDS), self.TEXT)
        for thing in ["", "Walk", None, 7, ["walk"]]:
            for place in no_wholes() + [-1, 0, 5, 99]:
                self.assert_refused(BadWord, page.mend, place, thing)
        self.assert_as_it_was(page)

    def test_an_empty_page(self):
        page = Page(Machine(WORDS), "")
        for place in (0, 1, -1, None):
            self.assert_refused(NoPlace, page.mend, place, "walk")
        self.assert_refused(NoPlace, page.back)


class PlaceTest(unittest.TestCase):
    def test_the_class_and_its_methods_are_defined_in_their_file(self):
        self.assertEqual(Page.__module__, "wordmend.pages")
        self.assertIs(pages.Page, Page)
        for name in METHODS:
            self.assertIn(name, vars(Page))


if __name__ == "__main__":
    unittest.main()
