import itertools
import unittest

from tests.things import SIGNS, no_texts
from wordmend import books
from wordmend.books import Book
from wordmend.errors import BadRule, BadWord, InUse, MendError, NoClass, NoStem, TooMany, Twice
from wordmend.making import Band, made
from wordmend.rules import Beginning, Ending, Rule

GREAT = "ABCDEFGHIJKLMNOPQRSTUVWXYZ"
LETTERS = "abcdefghijklmnopqrstuvwxyz"
METHODS = ["put_class", "take_class", "put_stem", "take_stem", "classes", "band", "stems",
           "names", "words", "makings", "text"]


def adding(*told):
    """Endings that put a text behind each word."""
    return [Ending("", added, "") for added in told]


def leading(*told):
    """Beginnings that put a text ahead of each word."""
    return [Beginning("", added, "") for added in told]


def some_book():
    """A book of both kinds of classes, with a further class, and of three stems."""
    book = Book()
    book.put_class("B", "ending", [Ending("", "s", "[^s]"), Ending("y", "ies", "[^aeiou]y")])
    book.put_class("A", "ending", [Ending("", "er", "[^e]", "B"), Ending("", "r", "e", "B")])
    book.put_class("U", "beginning", [Beginning("", "un", "[^u]")])
    book.put_stem("go", "UA")
    book.put_stem("bake", "")
    book.put_stem("fly", "B")
    return book


def full_of_classes():
    """A book of eight classes, each other one of beginnings."""
    book = Book()
    for number, name in enumerate("HGFEDCBA"):
        if number % 2:
            book.put_class(name, "beginning", leading("u"))
        else:
            book.put_class(name, "ending", adding("s"))
    return book


def some_words(many):
    """So many words, each one of four letters, none with x, y or z."""
    return ["".join(some) for some in itertools.islice(itertools.product(LETTERS[:20], repeat=4),
                                                       many)]


def fifty_each(many):
    """A book of so many stems with fifty makings each; other stems may be put."""
    book = Book()
    book.put_class("A", "ending", adding("x", "xx", "xxx", "xxxx", "xxxxx", "xxxxxx"))
    book.put_class("B", "ending", adding("y", "yy", "yyy"))
    book.put_class("C", "beginning", leading("z", "zz", "zzz", "zzzz"))
    book.put_class("D", "ending", adding("z"))
    for word in some_words(many):
        book.put_stem(word, "ABC")
    return book


def all_of(book):
    """All that a book tells of itself."""
    return (
        book.text(), book.classes(), book.stems(), book.words(),
        [(name, book.band(name).kind, list(book.band(name).rules)) for name in book.classes()],
        [book.names(stem) for stem in book.stems()],
        [book.makings(word) for word in book.words()],
    )


class BooksCase(unittest.TestCase):
    def assert_refused(self, refusal, deed, *told):
        """The refusal is just this one, and the book is as it was."""
        book = deed.__self__
        ahead = all_of(book)
        with self.assertRaises(MendError) as caught:
            deed(*told)
        self.assertIs(caught.exception.__class__, refusal)
        self.assertEqual(all_of(book), ahead)


class EmptyTest(BooksCase):
    def test_an_empty_book(self):
        book = Book()
        self.assertEqual(book.classes(), [])
        self.assertEqual(book.stems(), [])
        self.assertEqual(book.words(), [])
        self.assertEqual(book.text(), "")
        self.assertEqual(book.makings("walk"), [])
        self.assert_refused(NoClass, book.band, "A")
        self.assert_refused(NoClass, book.take_class, "A")
        self.assert_refused(NoStem, book.names, "walk")
        self.assert_refused(NoStem, book.take_stem, "walk")

    def test_each_book_has_its_own(self):
        one, other = some_book(), Book()
        one.put_stem("walk", "")
        self.assertEqual(other.text(), "")
        other.put_stem("a", "")
        self.assertEqual(one.stems(), ["bake", "fly", "go", "walk"])
        self.assertEqual(other.stems(), ["a"])

    def test_all_is_defined_in_its_file_and_class(self):
        self.assertEqual(Book.__module__, "wordmend.books")
        self.assertIs(books.Book, Book)
        for name in METHODS:
            self.assertIn(name, Book.__dict__)


class PutClassTest(BooksCase):
    def test_a_class_of_each_kind(self):
        book = Book()
        self.assertIsNone(book.put_class("B", "ending", adding("s")))
        self.assertIsNone(book.put_class("A", "beginning", leading("un", "re")))
        self.assertEqual(book.classes(), ["A", "B"])
        self.assertEqual(book.text(),
                         "ending B\nrule 0 s 0 0\nbeginning A\nrule 0 un 0\nrule 0 re 0")

    def test_each_great_letter_is_a_name(self):
        for name in GREAT:
            book = Book()
            book.put_class(name, "ending", adding("s"))
            self.assertEqual(book.classes(), [name])

    def test_one_to_six_rules(self):
        for many in range(1, 7):
            book = Book()
            book.put_class("A", "ending", adding(*LETTERS[:many]))
            book.put_class("B", "beginning", leading(*LETTERS[:many]))
            self.assertEqual(len(book.band("A").rules), many)
            self.assertEqual(len(book.band("B").rules), many)

    def test_one_rule_may_stand_twice(self):
        rule = Ending("", "s", "")
        book = Book()
        book.put_class("A", "ending", [rule, rule])
        book.put_stem("go", "A")
        self.assertEqual(book.makings("gos"),
                         [("go", None, (("A", 0),)), ("go", None, (("A", 1),))])

    def test_a_name_that_is_none(self):
        book = some_book()
        for sign in ["", "AA", "CD", "c", "0", "C ", " C", "C\n", *SIGNS]:
            if sign not in GREAT or sign == "":
                self.assert_refused(BadRule, book.put_class, sign, "ending", adding("s"))
        for thing in no_texts():
            self.assert_refused(BadRule, book.put_class, thing, "ending", adding("s"))

    def test_a_kind_that_is_none(self):
        book = some_book()
        for kind in ["", "endings", "Ending", "ENDING", "end", "ending ", " ending", "begin",
                     "beginnings", "rule", "stem", "A", "0", "ending\n", *no_texts()]:
            self.assert_refused(BadRule, book.put_class, "C", kind, adding("s"))
            self.assert_refused(BadRule, book.put_class, "C", kind, leading("s"))

    def test_rules_that_are_none(self):
        book = some_book()
        for kind, good, other in (("ending", adding("s"), leading("s")),
                                  ("beginning", leading("s"), adding("s"))):
            for rules in ([], good * 7, good * 100, other, good + other, other + good,
                          [Rule("", "s", "")], good + [Rule("", "s", "")], good + [None],
                          [good], (), tuple(good), {}, {"A": good}, {0: good[0]}, good[0],
                          good[0].text(), [good[0].text()], [Ending], Band(kind, good),
                          [Band(kind, good)], iter(good), ["0 s 0 0"], ["0", "s"]):
                self.assert_refused(BadRule, book.put_class, "C", kind, rules)

    def test_rules_of_another_kind_of_thing(self):
        book = some_book()
        for kind in ("ending", "beginning"):
            for thing in no_texts() + ["", "s", "0 s 0 0", "ending"]:
                self.assert_refused(BadRule, book.put_class, "C", kind, thing)
                self.assert_refused(BadRule, book.put_class, "C", kind, [thing])
                self.assert_refused(BadRule, book.put_class, "C", kind, adding("s") + [thing])
                self.assert_refused(BadRule, book.put_class, "C", kind, leading("s") + [thing])

    def test_twice(self):
        book = some_book()
        for name in "ABU":
            self.assert_refused(Twice, book.put_class, name, "ending", adding("s"))
            self.assert_refused(Twice, book.put_class, name, "beginning", leading("s"))
            band = book.band(name)
            self.assert_refused(Twice, book.put_class, name, band.kind, band.rules)

    def test_the_eighth_class_and_a_ninth(self):
        book = Book()
        for number, name in enumerate("HGFEDCBA"):
            self.assertIsNone(book.put_class(name, "ending", adding("s")))
            self.assertEqual(len(book.classes()), number + 1)
        self.assert_refused(TooMany, book.put_class, "I", "ending", adding("s"))
        self.assert_refused(TooMany, book.put_class, "I", "beginning", leading("s"))
        book.take_class("D")
        self.assertIsNone(book.put_class("I", "beginning", leading("s")))
        self.assert_refused(TooMany, book.put_class, "D", "ending", adding("s"))

    def test_a_further_class(self):
        book = Book()
        book.put_class("B", "ending", adding("b"))
        book.put_class("C", "ending", adding("c"))
        self.assertIsNone(book.put_class("A", "ending", [Ending("", "a", "", "BC")]))
        self.assertIsNone(book.put_class("D", "ending", adding("d") + [Ending("", "a", "", "B")]))

    def test_a_further_class_that_is_not_there(self):
        book = some_book()
        for further in ("C", "Z", "CD", "BC", "BZ", "BCZ"):
            for rules in ([Ending("", "a", "", further)],
                          adding("a", "b") + [Ending("", "c", "", further)]):
                self.assert_refused(NoClass, book.put_class, "D", "ending", rules)

    def test_a_class_is_not_its_own_further_one(self):
        self.assert_refused(NoClass, Book().put_class, "A", "ending", [Ending("", "a", "", "A")])
        self.assert_refused(NoClass, some_book().put_class, "C", "ending",
                            [Ending("", "a", "", "BC")])

    def test_a_further_class_of_beginnings(self):
        book = some_book()
        self.assert_refused(NoClass, book.put_class, "C", "ending", [Ending("", "a", "", "U")])
        self.assert_refused(NoClass, book.put_class, "C", "ending", [Ending("", "a", "", "BU")])

    def test_a_further_class_that_has_further_ones(self):
        book = some_book()
        self.assert_refused(NoClass, book.put_class, "C", "ending", [Ending("", "a", "", "A")])
        self.assert_refused(NoClass, book.put_class, "C", "ending", [Ending("", "a", "", "AB")])
        book.put_class("D", "ending", adding("a") + [Ending("", "b", "", "B")] + adding("c"))
        self.assert_refused(NoClass, book.put_class, "C", "ending", [Ending("", "a", "", "D")])

    def test_two_refusals_at_once(self):
        wrong = [Ending("", "a", "", "Z")]
        book = some_book()
        # BadRule ahead of Twice and of NoClass.
        self.assert_refused(BadRule, book.put_class, "A", "Ending", adding("s"))
        self.assert_refused(BadRule, book.put_class, "A", "ending", [])
        self.assert_refused(BadRule, book.put_class, "A", "ending", leading("s"))
        self.assert_refused(BadRule, book.put_class, "a", "ending", wrong)
        self.assert_refused(BadRule, book.put_class, "C", "beginning", wrong)
        self.assert_refused(BadRule, book.put_class, "C", "ending", wrong * 7)
        # Twice ahead of NoClass.
        self.assert_refused(Twice, book.put_class, "A", "ending", wrong)
        # BadRule, then Twice, then TooMany, then NoClass.
        book = full_of_classes()
        self.assert_refused(BadRule, book.put_class, "I", "ending", [])
        self.assert_refused(BadRule, book.put_class, "i", "ending", adding("s"))
        self.assert_refused(BadRule, book.put_class, "I", "stem", adding("s"))
        self.assert_refused(Twice, book.put_class, "A", "ending", adding("s"))
        self.assert_refused(Twice, book.put_class, "H", "ending", wrong)
        self.assert_refused(TooMany, book.put_class, "I", "ending", wrong)
        self.assert_refused(TooMany, book.put_class, "I", "ending", [Ending("", "a", "", "G")])


class TakeClassTest(BooksCase):
    def test_a_class_goes_and_may_be_put_again(self):
        book = Book()
        book.put_class("A", "ending", adding("s"))
        book.put_class("B", "beginning", leading("un"))
        self.assertIsNone(book.take_class("A"))
        self.assertEqual(book.classes(), ["B"])
        self.assert_refused(NoClass, book.take_class, "A")
        self.assert_refused(NoClass, book.band, "A")
        self.assert_refused(NoClass, book.put_stem, "go", "A")
        self.assertIsNone(book.put_class("A", "beginning", leading("re")))
        self.assertEqual(book.classes(), ["A", "B"])
        self.assertEqual(book.band("A").kind, "beginning")

    def test_no_class(self):
        book = some_book()
        for name in ["", "C", "Z", "a", "AB", "BA", "UU", "A ", " A", "A\n", "0"]:
            self.assert_refused(NoClass, book.take_class, name)
        for thing in no_texts() + [["A"], ("A",), {"A": 1}, book.band("A")]:
            self.assert_refused(NoClass, book.take_class, thing)

    def test_in_use_by_a_stem(self):
        book = Book()
        for name in "ABCD":
            book.put_class(name, "ending", adding("s"))
        book.put_class("E", "beginning", leading("s"))
        book.put_stem("go", "DBE")
        book.put_stem("walk", "C")
        for name in "BCDE":
            self.assert_refused(InUse, book.take_class, name)
        book.take_class("A")
        book.take_stem("walk")
        book.take_class("C")
        for name in "BDE":
            self.assert_refused(InUse, book.take_class, name)
        book.take_stem("go")
        for name in "BDE":
            self.assertIsNone(book.take_class(name))
        self.assertEqual(book.text(), "")

    def test_in_use_though_no_rule_of_it_can_be_used(self):
        book = Book()
        book.put_class("A", "ending", [Ending("x", "y", "")])
        book.put_stem("go", "A")
        self.assert_refused(InUse, book.take_class, "A")

    def test_in_use_by_a_rules_further_ones(self):
        book = Book()
        for name in "ABC":
            book.put_class(name, "ending", adding("s"))
        book.put_class("D", "ending", adding("s") + [Ending("", "t", "", "AC")])
        for name in "AC":
            self.assert_refused(InUse, book.take_class, name)
        self.assertIsNone(book.take_class("B"))
        self.assertIsNone(book.take_class("D"))
        for name in "AC":
            self.assertIsNone(book.take_class(name))

    def test_no_class_ahead_of_in_use(self):
        book = some_book()
        self.assert_refused(NoClass, book.take_class, "UA")
        self.assert_refused(NoClass, book.take_class, ["A"])
        self.assert_refused(InUse, book.take_class, "A")


class PutStemTest(BooksCase):
    def test_a_stem_with_none_to_four_classes(self):
        book = full_of_classes()
        for number, names in enumerate(["", "A", "BA", "CAB", "DACB", "HGFE"]):
            word = LETTERS[number]
            self.assertIsNone(book.put_stem(word, names))
            self.assertEqual(book.names(word), names)
        self.assertEqual(book.stems(), list("abcdef"))

    def test_a_word_that_is_none(self):
        book = some_book()
        for word in ["", "a" * 17, "Walk", "wa lk", "walk\n", " walk", "0", "walk0", *no_texts()]:
            self.assert_refused(BadWord, book.put_stem, word, "")

    def test_names_that_are_none(self):
        book = full_of_classes()
        for names in ["AA", "ABA", "ABCDE", "ABCDA", "a", "Ab", "A B", "A,B", "0", " ", "A ",
                      "A\n", "-", GREAT, *no_texts(), ["A"], ("A", "B"), {"A": 1}, b"A"]:
            self.assert_refused(BadRule, book.put_stem, "walk", names)

    def test_twice(self):
        book = some_book()
        for word in ("go", "bake", "fly"):
            for names in ("", "A", book.names(word)):
                self.assert_refused(Twice, book.put_stem, word, names)

    def test_a_word_that_is_made_may_be_a_stem(self):
        book = some_book()
        self.assertIsNone(book.put_stem("goer", "B"))
        self.assertEqual(book.makings("goer"), [("go", None, (("A", 0),)), ("goer", None, ())])

    def test_a_class_that_is_not_there(self):
        book = some_book()
        for names in ("C", "Z", "AC", "CA", "ABCU", "ABUZ"):
            self.assert_refused(NoClass, book.put_stem, "walk", names)

    def test_the_sixtieth_stem_and_one_more(self):
        book = Book()
        words = some_words(61)
        for number, word in enumerate(words[:60]):
            self.assertIsNone(book.put_stem(word, ""))
            self.assertEqual(len(book.stems()), number + 1)
        self.assert_refused(TooMany, book.put_stem, words[60], "")
        book.take_stem(words[7])
        self.assertIsNone(book.put_stem(words[60], ""))
        self.assert_refused(TooMany, book.put_stem, words[7], "")

    def test_two_thousand_makings_and_one_more(self):
        book = fifty_each(39)
        self.assertEqual(len(book.words()), 1950)
        last, other = some_words(41)[39:]
        self.assertIsNone(book.put_stem(last, "BCA"))
        self.assertEqual(len(book.words()), 2000)
        self.assert_refused(TooMany, book.put_stem, other, "")
        self.assert_refused(TooMany, book.put_stem, other, "ABC")
        book.take_stem(last)
        self.assertIsNone(book.put_stem(last, ""))
        self.assert_refused(TooMany, book.put_stem, other, "ABC")
        self.assertEqual(len(book.words()), 1951)
        # 1951 and seven sevens are 2000.
        for word in some_words(48)[41:]:
            self.assertIsNone(book.put_stem(word, "A"))
        self.assert_refused(TooMany, book.put_stem, other, "")

    def test_a_stem_that_has_too_many_makings_alone(self):
        book = Book()
        six = ["a", "b", "c", "d", "e", "f"]
        book.put_class("A", "ending", adding(*six))
        for name in "BCD":
            book.put_class(name, "ending", [Ending("", added, "", "A") for added in six])
        book.put_class("E", "beginning", leading(*six))
        book.put_class("F", "beginning", leading(*six[:5]))
        # Three classes of 6 and 36 makings and the stem's own, each with seven beginnings or six.
        self.assertEqual((1 + 3 * 42) * 7, 889)
        self.assertIsNone(book.put_stem("q", "BCDE"))
        self.assertIsNone(book.put_stem("r", "BCDE"))
        self.assert_refused(TooMany, book.put_stem, "s", "BCDE")
        book = Book()
        book.put_class("A", "ending", adding(*six))
        book.put_class("B", "ending", adding(*six))
        for name in "CD":
            book.put_class(name, "ending", [Ending("", added, "", "AB") for added in six])
        for name in "EF":
            book.put_class(name, "beginning", leading(*six))
        self.assertEqual((1 + 2 * (6 + 72)) * 13, 2041)
        self.assert_refused(TooMany, book.put_stem, "q", "CDEF")
        self.assertIsNone(book.put_stem("q", "CDE"))

    def test_makings_of_one_word_are_counted_each(self):
        book = Book()
        book.put_class("A", "ending", adding("s", "s", "s", "s", "s", "s"))
        book.put_class("B", "ending", adding("s", "s", "s"))
        book.put_class("C", "beginning", leading("u", "u", "u", "u"))
        for word in some_words(40):
            book.put_stem(word, "ABC")
        self.assertEqual(len(book.words()), 160)
        self.assert_refused(TooMany, book.put_stem, "go", "")

    def test_what_is_not_made_is_not_counted(self):
        book = Book()
        book.put_class("A", "ending", [Ending("x", added, "") for added in LETTERS[:6]])
        book.put_class("B", "ending", [Ending("y", added, "") for added in LETTERS[:6]])
        book.put_class("C", "beginning", [Beginning("z", added, "") for added in LETTERS[:6]])
        for word in some_words(60):
            self.assertIsNone(book.put_stem(word, "ABC"))
        self.assertEqual(len(book.words()), 60)

    def test_two_refusals_at_once(self):
        book = some_book()
        # BadWord ahead of BadRule and NoClass, BadRule ahead of Twice, Twice ahead of NoClass.
        self.assert_refused(BadWord, book.put_stem, "Go", "AA")
        self.assert_refused(BadWord, book.put_stem, None, None)
        self.assert_refused(BadWord, book.put_stem, "", "Z")
        self.assert_refused(BadRule, book.put_stem, "go", "AA")
        self.assert_refused(BadRule, book.put_stem, "go", None)
        self.assert_refused(BadRule, book.put_stem, "walk", "ZZ")
        self.assert_refused(BadRule, book.put_stem, "walk", "VWXYZ")
        self.assert_refused(Twice, book.put_stem, "go", "Z")
        # All of these ahead of TooMany, by stems and by makings.
        sixty = full_of_classes()
        for word in some_words(60):
            sixty.put_stem(word, "")
        for book in (sixty, fifty_each(40)):
            self.assert_refused(BadWord, book.put_stem, "Walk", "")
            self.assert_refused(BadRule, book.put_stem, "walk", "AA")
            self.assert_refused(Twice, book.put_stem, "aaaa", "")
            self.assert_refused(NoClass, book.put_stem, "walk", "Z")
            self.assert_refused(TooMany, book.put_stem, "walk", "")


class TakeStemTest(BooksCase):
    def test_a_stem_goes_with_all_its_makings(self):
        book = some_book()
        self.assertIsNone(book.take_stem("go"))
        self.assertEqual(book.stems(), ["bake", "fly"])
        self.assertEqual(book.words(), ["bake", "flies", "fly", "flys"])
        self.assertEqual(book.makings("go"), [])
        self.assertEqual(book.makings("goers"), [])
        self.assert_refused(NoStem, book.take_stem, "go")
        self.assert_refused(NoStem, book.names, "go")

    def test_put_again_with_other_classes(self):
        book = some_book()
        book.take_stem("go")
        self.assertIsNone(book.put_stem("go", "B"))
        self.assertEqual(book.names("go"), "B")
        self.assertEqual(book.words(), ["bake", "flies", "fly", "flys", "go", "gos"])

    def test_no_stem(self):
        book = some_book()
        for word in ["", "walk", "goer", "Go", "go ", "go\n", "GO", "a" * 17, "0", "A"]:
            self.assert_refused(NoStem, book.take_stem, word)
            self.assert_refused(NoStem, book.names, word)
        for thing in no_texts() + [["go"], ("go",), {"go": 1}, b"go"]:
            self.assert_refused(NoStem, book.take_stem, thing)
            self.assert_refused(NoStem, book.names, thing)

    def test_a_word_that_two_stems_make_stays_while_one_is_there(self):
        book = some_book()
        book.put_stem("goe", "A")
        book.put_stem("goer", "")
        self.assertEqual(len(book.makings("goer")), 3)
        for stem, left in (("go", 2), ("goe", 1), ("goer", 0)):
            book.take_stem(stem)
            self.assertEqual(len(book.makings("goer")), left)
            self.assertEqual("goer" in book.words(), left > 0)


class ToldTest(BooksCase):
    def test_classes_and_stems_rise(self):
        book = some_book()
        self.assertEqual(book.classes(), ["A", "B", "U"])
        self.assertEqual(book.stems(), ["bake", "fly", "go"])
        self.assertEqual(full_of_classes().classes(), list("ABCDEFGH"))

    def test_names_as_they_were_told(self):
        book = some_book()
        self.assertEqual(book.names("go"), "UA")
        self.assertEqual(book.names("bake"), "")
        self.assertEqual(book.names("fly"), "B")

    def test_a_band(self):
        book = some_book()
        for name, kind, texts in (("A", "ending", ["0 er [^e] B", "0 r e B"]),
                                  ("B", "ending", ["0 s [^s] 0", "y ies [^aeiou]y 0"]),
                                  ("U", "beginning", ["0 un [^u]"])):
            band = book.band(name)
            self.assertIs(band.__class__, Band)
            self.assertEqual(band.kind, kind)
            self.assertIsInstance(band.rules, list)
            self.assertEqual([rule.text() for rule in band.rules], texts)

    def test_no_band(self):
        book = some_book()
        for name in ["", "C", "Z", "a", "AB", "BA", "A ", "A\n", "0"]:
            self.assert_refused(NoClass, book.band, name)
        for thing in no_texts() + [["A"], ("A",), {"A": 1}]:
            self.assert_refused(NoClass, book.band, thing)

    def test_words_rise_each_once(self):
        book = some_book()
        self.assertEqual(book.words(), ["bake", "flies", "fly", "flys", "go", "goer", "goers",
                                        "ungo", "ungoer", "ungoers"])
        book.put_stem("goer", "B")
        book.put_stem("flies", "")
        self.assertEqual(book.words(), ["bake", "flies", "fly", "flys", "go", "goer", "goers",
                                        "ungo", "ungoer", "ungoers"])

    def test_words_are_those_of_all_makings(self):
        book = fifty_each(5)
        bands = {name: book.band(name) for name in book.classes()}
        rows = [row for stem in book.stems() for row in made(bands, stem, book.names(stem))]
        self.assertEqual(len(rows), 250)
        self.assertEqual(book.words(), sorted({word for word, _ in rows}))
        for word in book.words():
            self.assertEqual(book.makings(word), [one for come, one in rows if come == word])


class MakingsTest(BooksCase):
    def test_makings_of_a_word(self):
        book = some_book()
        self.assertEqual(book.makings("go"), [("go", None, ())])
        self.assertEqual(book.makings("ungoers"), [("go", ("U", 0), (("A", 0), ("B", 0)))])
        self.assertEqual(book.makings("flies"), [("fly", None, (("B", 1),))])

    def test_what_is_not_made(self):
        book = some_book()
        for word in ("a", "gos", "walk", "un", "flyer", "goersgoersgoersg"):
            self.assertEqual(book.makings(word), [])

    def test_what_is_no_word(self):
        book = some_book()
        for word in ["", "Go", "go ", "go\n", "a" * 17, "0", "A", *no_texts(), ["go"], b"go"]:
            self.assert_refused(BadWord, book.makings, word)

    def test_of_all_stems_in_their_order_then_by_endings_and_beginnings(self):
        book = Book()
        book.put_class("C", "ending", adding("b"))
        book.put_class("A", "ending", [Ending("", "b", ""), Ending("", "bb", ""),
                                       Ending("", "b", "", "C")])
        book.put_class("B", "beginning", leading("b", "bb", "bbb"))
        for stem in ("bbb", "b", "bbbb", "bb"):
            book.put_stem(stem, "BA")
        self.assertEqual(book.makings("bbbb"), [
            ("b", ("B", 2), ()),
            ("b", ("B", 1), (("A", 0),)),
            ("b", ("B", 0), (("A", 1),)),
            ("b", ("B", 1), (("A", 2),)),
            ("b", ("B", 0), (("A", 2), ("C", 0))),
            ("bb", ("B", 1), ()),
            ("bb", ("B", 0), (("A", 0),)),
            ("bb", None, (("A", 1),)),
            ("bb", ("B", 0), (("A", 2),)),
            ("bb", None, (("A", 2), ("C", 0))),
            ("bbb", ("B", 0), ()),
            ("bbb", None, (("A", 0),)),
            ("bbb", None, (("A", 2),)),
            ("bbbb", None, ()),
        ])

    def test_stems_rise_whatever_the_order_in_which_they_were_put(self):
        for stems in itertools.permutations(["go", "goe", "goer"]):
            book = Book()
            book.put_class("A", "ending", [Ending("", "er", "o"), Ending("", "r", "e")])
            for stem in stems:
                book.put_stem(stem, "A")
            self.assertEqual([one[0] for one in book.makings("goer")], ["go", "goe", "goer"])


class HandedInTest(BooksCase):
    def test_lists_told_are_new_ones(self):
        book = some_book()
        ahead = all_of(book)
        for _ in range(2):
            for told in (book.classes(), book.stems(), book.words(), book.makings("goers"),
                         book.makings("walk"), book.band("A").rules):
                told.append(None)
                told.reverse()
                del told[1:]
            self.assertEqual(all_of(book), ahead)

    def test_lists_told_are_not_changed_later(self):
        book = some_book()
        told = [book.classes(), book.stems(), book.words(), book.makings("goers"),
                book.makings("walk"), book.band("B").rules]
        copied = [list(one) for one in told]
        book.put_class("C", "ending", adding("walk"))
        book.put_stem("walk", "C")
        book.put_stem("goers", "")
        book.take_stem("go")
        book.take_class("A")
        book.take_stem("fly")
        book.take_class("B")
        book.put_class("B", "ending", adding("q"))
        self.assertEqual(told, copied)

    def test_a_band_told_stays_as_it_was(self):
        book = some_book()
        book.take_stem("fly")
        book.take_stem("go")
        book.take_class("A")
        band = book.band("B")
        book.take_class("B")
        book.put_class("B", "beginning", leading("q"))
        self.assertEqual(band.kind, "ending")
        self.assertEqual([rule.text() for rule in band.rules],
                         ["0 s [^s] 0", "y ies [^aeiou]y 0"])

    def test_lists_handed_in_stay_as_they_are(self):
        rules = adding("s", "t")
        copied = list(rules)
        texts = [rule.text() for rule in rules]
        book = Book()
        book.put_class("A", "ending", rules)
        book.put_stem("go", "A")
        book.words()
        book.take_stem("go")
        book.take_class("A")
        self.assertEqual(rules, copied)
        self.assertEqual([rule.text() for rule in rules], texts)

    def test_lists_handed_in_may_be_changed_behind(self):
        rules = adding("s", "t")
        book = Book()
        book.put_class("A", "ending", rules)
        rules.append(None)
        rules[0] = Ending("", "q", "", "Z")
        book.put_stem("go", "A")
        self.assertEqual(book.words(), ["go", "gos", "got"])
        rules.clear()
        book.put_stem("do", "A")
        self.assertEqual(book.words(), ["do", "dos", "dot", "go", "gos", "got"])
        self.assertEqual(book.text(), "ending A\nrule 0 s 0 0\nrule 0 t 0 0\nstem do A\nstem go A")

    def test_one_list_for_two_classes(self):
        rules = adding("s")
        book = Book()
        book.put_class("A", "ending", rules)
        rules.append(Ending("", "t", ""))
        book.put_class("B", "ending", rules)
        self.assertEqual(len(book.band("A").rules), 1)
        self.assertEqual(len(book.band("B").rules), 2)

    def test_a_band_told_may_be_put_elsewhere(self):
        one, other = some_book(), Book()
        band = one.band("B")
        other.put_class("Q", band.kind, band.rules)
        band.rules.clear()
        self.assertEqual(len(other.band("Q").rules), 2)
        self.assertEqual(len(one.band("B").rules), 2)


class TextTest(BooksCase):
    def test_classes_as_they_were_put_and_stems_rising(self):
        self.assertEqual(some_book().text(), "\n".join([
            "ending B",
            "rule 0 s [^s] 0",
            "rule y ies [^aeiou]y 0",
            "ending A",
            "rule 0 er [^e] B",
            "rule 0 r e B",
            "beginning U",
            "rule 0 un [^u]",
            "stem bake 0",
            "stem fly B",
            "stem go UA",
        ]))

    def test_one_class_and_one_stem_alone(self):
        book = Book()
        book.put_class("A", "beginning", leading("un"))
        self.assertEqual(book.text(), "beginning A\nrule 0 un 0")
        book = Book()
        book.put_stem("go", "")
        self.assertEqual(book.text(), "stem go 0")

    def test_a_class_that_was_taken_and_put_again_stands_last(self):
        book = Book()
        for name in "CAB":
            book.put_class(name, "ending", adding("s"))
        self.assertEqual(book.text().split("\n")[::2], ["ending C", "ending A", "ending B"])
        book.take_class("C")
        self.assertEqual(book.text().split("\n")[::2], ["ending A", "ending B"])
        book.put_class("C", "ending", adding("s"))
        self.assertEqual(book.text().split("\n")[::2], ["ending A", "ending B", "ending C"])
        book.take_class("B")
        book.put_class("B", "ending", adding("s"))
        self.assertEqual(book.text().split("\n")[::2], ["ending A", "ending C", "ending B"])
        self.assertEqual(book.classes(), ["A", "B", "C"])

    def test_a_book_that_was_emptied(self):
        book = some_book()
        for stem in book.stems():
            book.take_stem(stem)
        for name in "AUB":
            book.take_class(name)
        self.assertEqual(book.text(), "")


if __name__ == "__main__":
    unittest.main()
