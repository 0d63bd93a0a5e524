import string
import unittest

from tests.things import SIGNS, no_texts
from wordmend.names import are_names, is_name

GREAT = string.ascii_uppercase


class NamesTest(unittest.TestCase):
    def test_a_name_is_one_great_letter(self):
        for sign in SIGNS:
            self.assertIs(is_name(sign), sign in GREAT)
        for text in ("", "AB", "AA", "Ab", "A ", "A\n", " A", "0"):
            self.assertIs(is_name(text), False)

    def test_names_are_unlike_great_letters_in_any_order(self):
        for text in ("", "A", "Z", "AB", "BA", "ZAQ", "DCBA"):
            self.assertIs(are_names(text, 4), True)
        for text in ("AA", "ABA", "ABCC", "a", "Ab", "A B", "A,B", "0", "A\n", "ABCDE", GREAT):
            self.assertIs(are_names(text, 4), False)

    def test_at_most_so_many(self):
        for many in range(27):
            for most in range(27):
                self.assertIs(are_names(GREAT[:many], most), many <= most)

    def test_what_is_no_text(self):
        for thing in no_texts():
            with self.subTest(object.__repr__(thing)):
                self.assertIs(is_name(thing), False)
                self.assertIs(are_names(thing, 4), False)


if __name__ == "__main__":
    unittest.main()
