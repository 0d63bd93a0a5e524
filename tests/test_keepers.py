import random
import unittest

from tests.things import no_texts
from wordmend import keepers
from wordmend.books import Book
from wordmend.errors import (
    BadRule, BadText, BadWord, InUse, MendError, NoClass, NoStem, TooMany, Twice,
)
from wordmend.keepers import Keeper
from wordmend.machines import Machine
from wordmend.rules import Beginning, Ending
from wordmend.texts import book_of

METHODS = ["put_class", "take_class", "put_stem", "take_stem", "text", "makings", "words",
           "machine"]
TEXT = "\n".join([
    "ending B",
    "rule 0 s [^s] 0",
    "rule y ies [^aeiou]y 0",
    "ending A",
    "rule 0 er [^e] B",
    "rule 0 r e B",
    "beginning U",
    "rule 0 un [^u]",
    "stem bake A",
    "stem go UB",
])
NOTHING = ([], [])


def stem_alone(word):
    """A making of a word by no rule."""
    return [(word, None, ())]


class KeepersCase(unittest.TestCase):
    def assert_holds(self, keeper):
        """Book and machine have the same words, those of a book made anew."""
        book = book_of(keeper.text())
        self.assertEqual(keeper.words(), book.words())
        machine = keeper.machine()
        self.assertEqual(machine.words(), book.words())
        self.assertEqual(machine.many(), len(book.words()))
        self.assertEqual(machine.rows(), Machine(book.words()).rows())
        for word in book.words() + ["zebra"]:
            self.assertEqual(keeper.makings(word), book.makings(word))

    def assert_refused(self, refusal, deed, *told):
        with self.assertRaises(MendError) as caught:
            deed(*told)
        self.assertIs(caught.exception.__class__, refusal)


class TextsTest(KeepersCase):
    def test_an_empty_keeper(self):
        for keeper in (Keeper(), Keeper("")):
            self.assertEqual(keeper.text(), "")
            self.assertEqual(keeper.words(), [])
            self.assertEqual(keeper.machine().rows(), [(False, ())])
            self.assertEqual(keeper.makings("go"), [])
            self.assert_holds(keeper)

    def test_of_a_text(self):
        keeper = Keeper(TEXT)
        self.assertEqual(keeper.text(), TEXT)
        self.assertEqual(keeper.words(), ["bake", "baker", "bakers", "go", "gos", "ungo", "ungos"])
        self.assertEqual(keeper.makings("bakers"), [("bake", None, (("A", 1), ("B", 0)))])
        self.assertEqual(keeper.makings("ungo"), [("go", ("U", 0), ())])
        self.assert_holds(keeper)

    def test_a_bad_text(self):
        for text, line in (("ending", 0), ("stem go A", 0), ("stem go 0\nstem go 0", 1),
                           (TEXT + "\n", 10), ("ending A", 1), ("\n", 0),
                           (TEXT + "\nstem go 0", 10)):
            with self.assertRaises(MendError) as caught:
                Keeper(text)
            self.assertIs(caught.exception.__class__, BadText)
            self.assertEqual(caught.exception.line, line)

    def test_what_is_no_text(self):
        for thing in no_texts():
            with self.subTest(object.__repr__(thing)):
                with self.assertRaises(MendError) as caught:
                    Keeper(thing)
                self.assertIs(caught.exception.__class__, BadText)
                self.assertEqual(caught.exception.line, 0)


class DeedsTest(KeepersCase):
    def test_words_come_and_go(self):
        keeper = Keeper(TEXT)
        self.assertEqual(keeper.put_stem("fly", "B"), (["flies", "fly", "flys"], []))
        self.assert_holds(keeper)
        self.assertEqual(keeper.take_stem("go"), ([], ["go", "gos", "ungo", "ungos"]))
        self.assert_holds(keeper)
        self.assertEqual(keeper.put_stem("go", ""), (["go"], []))
        self.assert_holds(keeper)
        self.assertEqual(keeper.take_stem("fly"), ([], ["flies", "fly", "flys"]))
        self.assertEqual(keeper.take_stem("bake"), ([], ["bake", "baker", "bakers"]))
        self.assertEqual(keeper.take_stem("go"), ([], ["go"]))
        self.assertEqual(keeper.machine().rows(), [(False, ())])
        self.assert_holds(keeper)

    def test_a_word_that_is_there_already_does_not_come(self):
        keeper = Keeper(TEXT)
        self.assertEqual(keeper.put_stem("baker", ""), NOTHING)
        self.assertEqual(keeper.put_stem("gos", "U"), NOTHING)
        self.assertEqual(keeper.makings("gos"), [("go", None, (("B", 0),)), ("gos", None, ())])
        self.assert_holds(keeper)

    def test_a_word_that_is_still_made_does_not_go(self):
        keeper = Keeper(TEXT)
        keeper.put_stem("baker", "B")
        self.assertEqual(keeper.take_stem("bake"), ([], ["bake"]))
        self.assert_holds(keeper)
        self.assertEqual(keeper.take_stem("baker"), ([], ["baker", "bakers"]))
        self.assert_holds(keeper)

    def test_classes_come_and_go_without_words(self):
        keeper = Keeper()
        self.assertEqual(keeper.put_class("B", "ending", [Ending("", "s", "")]), NOTHING)
        self.assertEqual(keeper.put_class("A", "ending", [Ending("", "er", "", "B")]), NOTHING)
        self.assertEqual(keeper.put_class("U", "beginning", [Beginning("", "un", "")]), NOTHING)
        self.assert_holds(keeper)
        self.assertEqual(keeper.put_stem("do", "AU"), (
            ["do", "doer", "doers", "undo", "undoer", "undoers"], []))
        self.assert_holds(keeper)
        self.assertEqual(keeper.take_stem("do")[0], [])
        self.assertEqual(keeper.take_class("A"), NOTHING)
        self.assertEqual(keeper.take_class("B"), NOTHING)
        self.assertEqual(keeper.text(), "beginning U\nrule 0 un 0")
        self.assert_holds(keeper)

    def test_words_rise(self):
        keeper = Keeper("ending A\nrule 0 s 0 0\nbeginning U\nrule 0 a 0")
        came, went = keeper.put_stem("b", "UA")
        self.assertEqual((came, went), (["ab", "abs", "b", "bs"], []))
        came, went = keeper.take_stem("b")
        self.assertEqual((came, went), ([], ["ab", "abs", "b", "bs"]))

    def test_kinds_of_values(self):
        keeper = Keeper(TEXT)
        for told in (keeper.put_stem("fly", "B"), keeper.take_stem("fly"),
                     keeper.put_class("C", "ending", [Ending("", "x", "")]),
                     keeper.take_class("C"), keeper.take_stem("bake")):
            self.assertIs(told.__class__, tuple)
            self.assertEqual([part.__class__ for part in told], [list, list])
        self.assertIs(keeper.words().__class__, list)
        self.assertIs(keeper.makings("go").__class__, list)
        self.assertIs(keeper.text().__class__, str)
        self.assertIs(keeper.machine().__class__, Machine)

    def test_by_chance(self):
        chance = random.Random(14)
        keeper, book = Keeper(TEXT), book_of(TEXT)
        pool = ["go", "gos", "bake", "baker", "fly", "flies", "ungo", "un", "do", "er"]
        for _ in range(150):
            word = chance.choice(pool)
            names = "".join(chance.sample("ABU", chance.randint(0, 3)))
            before = set(book.words())
            if word in book.stems():
                book.take_stem(word)
                came, went = keeper.take_stem(word)
            else:
                book.put_stem(word, names)
                came, went = keeper.put_stem(word, names)
            after = set(book.words())
            self.assertEqual(came, sorted(after - before))
            self.assertEqual(went, sorted(before - after))
            self.assertEqual(keeper.text(), book.text())
            self.assert_holds(keeper)


class OwnTest(KeepersCase):
    def test_a_told_machine_is_the_askers_own(self):
        keeper = Keeper(TEXT)
        machine = keeper.machine()
        rows = machine.rows()
        machine.put("zebra")
        machine.take("go")
        self.assert_holds(keeper)
        self.assertEqual(keeper.machine().rows(), rows)
        other = keeper.machine()
        keeper.take_stem("go")
        self.assertEqual(other.rows(), rows)
        self.assertIn("zebra", machine.words())
        self.assert_holds(keeper)

    def test_what_came_and_went_is_right_behind_a_changed_machine(self):
        keeper = Keeper(TEXT)
        machine = keeper.machine()
        machine.put("fly")
        machine.take("go")
        self.assertEqual(keeper.put_stem("fly", ""), (["fly"], []))
        self.assertEqual(keeper.take_stem("go"), ([], ["go", "gos", "ungo", "ungos"]))

    def test_told_lists_are_the_askers_own(self):
        keeper = Keeper(TEXT)
        words, makings = keeper.words(), keeper.makings("go")
        came, went = keeper.put_stem("fly", "")
        self.assertEqual(came, ["fly"])
        for told in (words, makings, came, went):
            told.append("zebra")
        self.assert_holds(keeper)
        self.assertEqual(keeper.makings("go"), stem_alone("go"))
        self.assertEqual(keeper.take_stem("fly"), ([], ["fly"]))
        self.assertEqual(came, ["fly", "zebra"])

    def test_rules_that_are_handed_in(self):
        keeper = Keeper()
        rules = [Ending("", "s", "")]
        keeper.put_class("A", "ending", rules)
        rules.clear()
        self.assertEqual(keeper.put_stem("go", "A"), (["go", "gos"], []))

    def test_keepers_have_nothing_in_common(self):
        one, other = Keeper(), Keeper()
        one.put_stem("go", "")
        self.assertEqual(other.words(), [])
        self.assert_holds(one)
        self.assert_holds(other)


class RefusalsTest(KeepersCase):
    def assert_refused_alike(self, keeper, refusal, deed, *told):
        """The keeper refuses as a book does, and nothing is changed."""
        text, rows = keeper.text(), keeper.machine().rows()
        self.assert_refused(refusal, getattr(keeper, deed), *told)
        self.assert_refused(refusal, getattr(book_of(text), deed), *told)
        self.assertEqual(keeper.text(), text)
        self.assertEqual(keeper.machine().rows(), rows)

    def test_each_refusal(self):
        keeper = Keeper(TEXT)
        good = [Ending("", "x", "")]
        for refusal, deed, *told in (
                (BadRule, "put_class", "a", "ending", good),
                (BadRule, "put_class", "A", "noun", good),
                (BadRule, "put_class", "A", "beginning", good),
                (BadRule, "put_class", "A", "ending", []),
                (Twice, "put_class", "A", "ending", good),
                (NoClass, "put_class", "C", "ending", [Ending("", "x", "", "D")]),
                (NoClass, "put_class", "C", "ending", [Ending("", "x", "", "A")]),
                (NoClass, "take_class", "C"),
                (InUse, "take_class", "A"), (InUse, "take_class", "B"),
                (BadWord, "put_stem", "Go", "aa"), (BadRule, "put_stem", "go", "aa"),
                (Twice, "put_stem", "go", "Z"), (NoClass, "put_stem", "do", "Z"),
                (NoStem, "take_stem", "do"), (NoStem, "take_stem", "Go"),
                (NoStem, "take_stem", "gos"),
                (BadWord, "makings", "Go")):
            with self.subTest(f"{refusal.__name__} {deed} {told}"):
                self.assert_refused_alike(keeper, refusal, deed, *told)
        self.assert_holds(keeper)

    def test_what_is_no_text(self):
        keeper = Keeper(TEXT)
        for thing in no_texts():
            with self.subTest(object.__repr__(thing)):
                self.assert_refused_alike(keeper, BadRule, "put_class", thing, "ending", [])
                self.assert_refused_alike(keeper, BadRule, "put_class", "C", thing, [])
                self.assert_refused_alike(keeper, BadRule, "put_class", "C", "ending", thing)
                self.assert_refused_alike(keeper, NoClass, "take_class", thing)
                self.assert_refused_alike(keeper, BadWord, "put_stem", thing, "A")
                self.assert_refused_alike(keeper, BadRule, "put_stem", "do", thing)
                self.assert_refused_alike(keeper, NoStem, "take_stem", thing)
                self.assert_refused_alike(keeper, BadWord, "makings", thing)

    def test_too_many(self):
        keeper = Keeper()
        rules = [Ending("", "s", "")]
        for name in "ABCDEFGH":
            keeper.put_class(name, "ending", rules)
        self.assert_refused_alike(keeper, TooMany, "put_class", "I", "ending", rules)
        for number in range(60):
            keeper.put_stem("q" * (number % 15 + 1) + "abcd"[number // 15], "")
        self.assert_refused_alike(keeper, TooMany, "put_stem", "go", "")
        self.assert_holds(keeper)

    def test_too_many_makings(self):
        rows = ["ending A"] + [f"rule 0 {'x' * many} 0 0" for many in range(1, 7)]
        rows += ["ending B"] + [f"rule 0 {'y' * many} 0 0" for many in range(1, 7)]
        rows += ["beginning U"] + [f"rule 0 {'z' * many} 0" for many in range(1, 7)]
        keeper = Keeper("\n".join(rows))
        # Thirteen words without a beginning, and with each of six: 91 makings for each stem.
        for letter in "abcdefghijklmnopqrstu":
            came, went = keeper.put_stem(letter, "ABU")
            self.assertEqual((len(came), went), (91, []))
        self.assert_refused_alike(keeper, TooMany, "put_stem", "v", "ABU")
        self.assertEqual(len(keeper.words()), 21 * 91)
        self.assertEqual(keeper.machine().words(), keeper.words())
        came, went = keeper.take_stem("a")
        self.assertEqual((came, len(went)), ([], 91))
        self.assertEqual(len(keeper.put_stem("v", "ABU")[0]), 91)


class PlaceTest(unittest.TestCase):
    def test_the_class_and_its_methods_are_defined_in_their_file(self):
        self.assertEqual(Keeper.__module__, "wordmend.keepers")
        self.assertIs(keepers.Keeper, Keeper)
        for name in METHODS:
            self.assertIn(name, vars(Keeper))

    def test_a_keeper_is_no_book(self):
        self.assertNotIsInstance(Keeper(), (Book, Machine))


if __name__ == "__main__":
    unittest.main()
