import itertools
import unittest

from tests.things import SIGNS, no_texts
from wordmend import texts
from wordmend.books import Book
from wordmend.errors import BadText, MendError
from wordmend.rules import Beginning, Ending
from wordmend.texts import book_of

ROWS = [
    "ending B",
    "rule 0 s [^s] 0",
    "rule y ies [^aeiou]y 0",
    "beginning U",
    "rule 0 un [^u]",
    "rule be 0 0",
    "ending A",
    "rule 0 er [^e] B",
    "rule 0 r e B",
    "ending C",
    "rule 0 ly 0 0",
    "stem bake 0",
    "stem fly BC",
    "stem go UAC",
]
CLASSES = 11


def joined(*rows):
    return "\n".join(rows)


def ending(name, *told):
    """The rows of a class of endings."""
    return ["ending " + name] + ["rule " + one for one in told or ["0 s 0 0"]]


def eight_classes():
    """The rows of eight classes, two for each."""
    return [row for name in "HGFEDCBA" for row in ending(name)]


def some_words(many):
    return ["".join(some) for some in itertools.islice(itertools.product("abcdefg", repeat=3),
                                                       many)]


class TextsCase(unittest.TestCase):
    def line_of(self, text):
        """The line of the refusal, or None where there is none."""
        try:
            book_of(text)
        except MendError as why:
            self.assertIs(why.__class__, BadText)
            self.assertIs(why.line.__class__, int)
            return why.line
        return None

    def assert_line(self, line, *rows):
        with self.subTest(rows):
            self.assertEqual(self.line_of(joined(*rows)), line)

    def assert_read(self, *rows):
        book = book_of(joined(*rows))
        self.assertIs(book.__class__, Book)
        self.assertEqual(book.text(), joined(*rows))
        return book

    def assert_row_refused(self, row):
        """Whatever stands ahead, the row is refused as its first wrong one."""
        for many in (0, 2, 3, 5, CLASSES, CLASSES + 1, len(ROWS)):
            self.assert_line(many, *ROWS[:many], row)
            self.assert_line(many, *ROWS[:many], row, *ROWS[many:])
        for many in (1, 4):
            self.assert_line(many, *ROWS[:many], row)


class ReadTest(TextsCase):
    def test_an_empty_text_writes_the_empty_book(self):
        book = book_of("")
        self.assertIs(book.__class__, Book)
        self.assertEqual((book.classes(), book.stems(), book.text()), ([], [], ""))

    def test_a_book_of_all(self):
        book = self.assert_read(*ROWS)
        self.assertEqual(book.classes(), ["A", "B", "C", "U"])
        self.assertEqual([(book.band(name).kind, len(book.band(name).rules)) for name in "ABCU"],
                         [("ending", 2), ("ending", 2), ("ending", 1), ("beginning", 2)])
        self.assertEqual(book.stems(), ["bake", "fly", "go"])
        self.assertEqual([book.names(stem) for stem in book.stems()], ["", "BC", "UAC"])
        self.assertEqual(book.makings("ungoers"), [("go", ("U", 0), (("A", 0), ("B", 0)))])
        self.assertEqual(book.makings("flies"), [("fly", None, (("B", 1),))])
        rule = book.band("B").rules[1]
        self.assertIs(rule.__class__, Ending)
        self.assertEqual((rule.cut, rule.added, rule.condition.told, rule.further),
                         ("y", "ies", "[^aeiou]y", ""))
        rule = book.band("U").rules[1]
        self.assertIs(rule.__class__, Beginning)
        self.assertEqual((rule.cut, rule.added, rule.condition.told), ("be", "", ""))

    def test_classes_alone_and_stems_alone(self):
        self.assert_read(*ROWS[:CLASSES])
        self.assert_read("beginning Z", "rule 0 un 0")
        self.assert_read("stem a 0")
        self.assert_read("stem a 0", "stem b 0", "stem c 0")

    def test_stems_in_any_order(self):
        stems = ROWS[CLASSES:]
        for turned in itertools.permutations(stems):
            book = book_of(joined(*ROWS[:CLASSES], *turned))
            self.assertEqual(book.text(), joined(*ROWS))
            self.assertEqual(book.stems(), ["bake", "fly", "go"])

    def test_names_as_they_were_told(self):
        for names in itertools.permutations("ABU"):
            self.assert_read(*ROWS[:CLASSES], "stem go " + "".join(names))

    def test_classes_stay_in_their_order(self):
        blocks = [ending(name) for name in "ABC"]
        for turned in itertools.permutations(blocks):
            self.assert_read(*[row for block in turned for row in block])

    def test_what_a_book_writes_is_read(self):
        book = book_of(joined(*ROWS))
        book.take_stem("fly")
        book.take_stem("go")
        book.take_class("C")
        book.put_class("D", "beginning", [Beginning("", "re", "")])
        book.put_class("C", "ending", [Ending("e", "", "")])
        book.put_stem("aaa", "CD")
        again = book_of(book.text())
        self.assertEqual(again.text(), book.text())
        self.assertEqual(again.words(), book.words())
        self.assertEqual(again.text().split("\n")[-6:], [
            "beginning D", "rule 0 re 0", "ending C", "rule e 0 0 0", "stem aaa CD", "stem bake 0"])

    def test_one_to_six_rules_eight_classes_and_sixty_stems(self):
        for many in range(1, 7):
            self.assert_read(*ending("A", *[f"0 {letter} 0 0" for letter in "abcdef"[:many]]))
        self.assert_read(*eight_classes())
        stems = [f"stem {word} 0" for word in some_words(60)]
        self.assert_read(*stems)
        self.assert_read(*eight_classes(), *stems)

    def test_what_is_read_may_be_changed_and_read_again(self):
        text = joined(*ROWS)
        one, other = book_of(text), book_of(text)
        one.take_stem("go")
        one.put_stem("walk", "B")
        self.assertEqual(other.text(), text)
        self.assertEqual(book_of(text).text(), text)

    def test_all_is_defined_in_its_file(self):
        self.assertEqual(book_of.__module__, "wordmend.texts")
        self.assertIs(texts.book_of, book_of)


class RowsTest(TextsCase):
    def test_a_row_that_is_none_of_these(self):
        for row in ("walk", "0", "ending", "beginning", "rule", "stem", "Ending A", "ENDING D",
                    "endings D", "end D", "begin D", "class ending D", "ending  D", " ending D",
                    "ending D ", "ending D 0", "ending D E", "ending DE", "ending d", "ending 0",
                    "ending ", "ending\tD", "beginning d", "beginning D E", "beginning ",
                    "ending -", "Stem walk 0", "stems walk 0", "stem", "stem ", "stem walk",
                    "stem walk ", "stem  walk 0", " stem walk 0", "stem walk 0 ", "stem walk  0",
                    "stem walk 0 0", "stem walk A B", "stem\twalk 0", "Rule 0 s 0 0", "D", "-",
                    "rules 0 s 0 0", " rule 0 s 0 0", "\t", " ", "  "):
            self.assert_row_refused(row)

    def test_each_sign_as_a_row(self):
        for sign in SIGNS:
            if sign != "\n":
                self.assert_line(0, sign)
                self.assert_line(len(ROWS), *ROWS, sign)

    def test_an_empty_row(self):
        self.assert_line(0, "", "")
        self.assert_line(0, "", "", "")
        for many in range(len(ROWS) + 1):
            self.assert_line(many, *ROWS[:many], "", *ROWS[many:])
        self.assert_line(len(ROWS), *ROWS, "")
        self.assert_line(1, "stem go 0", "")

    def test_a_class_behind_a_stem(self):
        for row in ("ending D", "beginning D", "ending A", "ending Z"):
            for many in range(CLASSES + 1, len(ROWS) + 1):
                self.assert_line(many, *ROWS[:many], row)
                self.assert_line(many, *ROWS[:many], row, "rule 0 s 0 0")
        self.assert_line(1, "stem go 0", "ending A", "rule 0 s 0 0")

    def test_a_rule_without_a_class_ahead(self):
        self.assert_line(0, "rule 0 s 0 0")
        self.assert_line(0, "rule 0 s 0 0", "ending A", "rule 0 s 0 0")
        self.assert_line(0, "rule 0 un 0", "beginning A")

    def test_a_rule_behind_a_stem(self):
        for row in ("rule 0 s 0 0", "rule 0 un 0"):
            for many in range(CLASSES + 1, len(ROWS) + 1):
                self.assert_line(many, *ROWS[:many], row)
        self.assert_line(1, "stem go 0", "rule 0 s 0 0")

    def test_a_class_or_a_stem_behind_a_class_without_a_rule(self):
        for first in ("ending A", "beginning A"):
            for row in ("ending B", "beginning B", "stem go 0", "stem go A", first, "ending B C"):
                self.assert_line(1, first, row)
                self.assert_line(1, first, row, "rule 0 s 0 0")
        self.assert_line(3, *ending("A"), "ending B", "stem go 0")
        self.assert_line(3, *ending("A"), "ending B", "beginning C")

    def test_a_class_that_is_there(self):
        for name in "ABCU":
            for kind in ("ending", "beginning"):
                self.assert_line(CLASSES, *ROWS[:CLASSES], f"{kind} {name}")
                self.assert_line(CLASSES, *ROWS[:CLASSES], f"{kind} {name}", "rule 0 s 0 0")
        self.assert_line(2, *ending("A"), *ending("A"))
        self.assert_line(2, *ending("A"), "beginning A", "rule 0 un 0", "stem go A")

    def test_a_ninth_class(self):
        self.assert_read(*eight_classes())
        for name in "IZA":
            for kind in ("ending", "beginning"):
                self.assert_line(16, *eight_classes(), f"{kind} {name}")
                self.assert_line(16, *eight_classes(), f"{kind} {name}", "rule 0 s 0 0")
                self.assert_line(16, *eight_classes(), f"{kind} {name}", "walk")

    def test_a_last_class_without_a_rule(self):
        self.assert_line(1, "ending A")
        self.assert_line(1, "beginning Z")
        self.assert_line(CLASSES + 1, *ROWS[:CLASSES], "ending D")
        self.assert_line(CLASSES + 1, *ROWS[:CLASSES], "beginning D")
        self.assert_line(15, *eight_classes()[:-1])


class RulesTest(TextsCase):
    def test_a_seventh_rule(self):
        six = [f"0 {letter} 0 0" for letter in "abcdef"]
        self.assert_read(*ending("A", *six))
        self.assert_line(7, *ending("A", *six), "rule 0 g 0 0")
        self.assert_line(7, *ending("A", *six), "rule 0 a 0 0")
        self.assert_line(9, *ending("B"), *ending("A", *six), "rule 0 g 0 0", "stem go A")
        six = [f"rule 0 {letter} 0" for letter in "abcdef"]
        self.assert_read("beginning A", *six)
        self.assert_line(7, "beginning A", *six, "rule 0 g 0")

    def test_a_rule_that_is_none_of_its_kind(self):
        wrong = ["", "0", "0 s", "0 s 0 0 0", "0  s 0 0", " 0 s 0 0", "0 s 0 0 ", "0 s 0  0",
                 " s 0 0", "s  0 0", "0 0 0 0", "s s 0 0", "0 s 00 0", "00 s 0 0", "0 s 0 00",
                 "abcde s 0 0", "0 abcdefg 0 0", "S s 0 0", "0 S 0 0", "0 s [ 0", "0 s [] 0",
                 "0 s [aa] 0", "0 s abcd 0", "0 s A 0", "0 s 0 b", "0 s 0 CB", "0 s 0 BB",
                 "0 s 0 ABCD", "0 s 0 -", "0\ts 0 0", "- s 0 0", "0 s - 0", "0 s 0 None"]
        both = [("ending", one) for one in wrong + ["0 s 0", "0 0 0", "0 s "]]
        both += [("beginning", one) for one in wrong + ["0 s 0 0", "0 s 0 B", "0 0 0", "0 s ",
                                                        " s 0", "s  0", "0 s 00", "a a 0"]]
        for kind, told in both:
            good = "rule 0 t 0 0" if kind == "ending" else "rule 0 t 0"
            self.assert_line(1, f"{kind} A", f"rule {told}")
            self.assert_line(2, f"{kind} A", good, f"rule {told}")
            self.assert_line(4, *ending("B"), f"{kind} A", good, f"rule {told}", "stem go A")

    def test_a_rule_with_no_blank_behind_the_word(self):
        self.assert_line(1, "ending A", "rule")
        self.assert_line(1, "ending A", "rule0 s 0 0")
        self.assert_line(1, "ending A", "rule\t0 s 0 0")

    def test_a_further_class_that_is_not_there(self):
        for further in ("B", "Z", "BC"):
            self.assert_line(1, "ending A", f"rule 0 s 0 {further}")
            self.assert_line(2, "ending A", "rule 0 t 0 0", f"rule 0 s 0 {further}")
            self.assert_line(1, "ending A", f"rule 0 s 0 {further}", "rule 0 t 0 0")
            # A class that is put behind is not there yet.
            self.assert_line(1, "ending A", f"rule 0 s 0 {further}", *ending("B"), *ending("Z"))
        self.assert_line(3, *ending("B"), "ending A", "rule 0 s 0 BZ")

    def test_a_class_is_not_its_own_further_one(self):
        self.assert_line(1, "ending A", "rule 0 s 0 A")
        self.assert_line(2, "ending A", "rule 0 s 0 0", "rule 0 t 0 A")
        self.assert_line(4, *ending("B"), "ending A", "rule 0 s 0 B", "rule 0 t 0 AB")

    def test_a_further_class_of_beginnings(self):
        rows = ["beginning U", "rule 0 un 0", "ending A"]
        self.assert_line(3, *rows, "rule 0 s 0 U")
        self.assert_line(4, *rows, "rule 0 s 0 0", "rule 0 s 0 U")

    def test_a_further_class_that_has_further_ones(self):
        rows = [*ending("B"), *ending("A", "0 t 0 0", "0 s 0 B"), "ending C"]
        self.assert_line(6, *rows, "rule 0 s 0 A")
        self.assert_line(6, *rows, "rule 0 s 0 AB")
        self.assert_line(7, *rows, "rule 0 s 0 B", "rule 0 s 0 A")
        self.assert_read(*rows, "rule 0 s 0 B")

    def test_further_ones_ahead_are_read(self):
        self.assert_read(*ending("C"), *ending("B"), *ending("A", "0 s 0 BC", "0 t 0 C"))


class StemsTest(TextsCase):
    def assert_stem_refused(self, row, *ahead):
        self.assert_line(len(ahead), *ahead, row)
        self.assert_line(len(ahead), *ahead, row, "stem zzz 0")
        self.assert_line(len(ahead), *ahead, row, "")

    def test_a_stem_that_is_no_word(self):
        for word in ("Walk", "walk1", "abcdefghijklmnopq", "0", "A", "-", "wa-lk"):
            self.assert_stem_refused(f"stem {word} 0", *ROWS)
            self.assert_stem_refused(f"stem {word} 0")

    def test_names_that_are_none(self):
        for names in ("AA", "ABCC", "ABCUA", "a", "Ab", "00", "A0", "0A", "-", "A,B"):
            self.assert_stem_refused(f"stem walk {names}", *ROWS)
        five = [row for name in "ABCDE" for row in ending(name)]
        self.assert_stem_refused("stem walk ABCDE", *five)
        self.assert_read(*five, "stem walk EDCB")

    def test_a_stem_that_is_there(self):
        for word in ("go", "bake", "fly"):
            self.assert_stem_refused(f"stem {word} 0", *ROWS)
            self.assert_stem_refused(f"stem {word} B", *ROWS)

    def test_a_class_that_is_not_there(self):
        self.assert_stem_refused("stem go A")
        for names in ("D", "Z", "AD", "DA", "ABCZ"):
            self.assert_stem_refused(f"stem walk {names}", *ROWS)

    def test_a_sixty_first_stem(self):
        stems = [f"stem {word} 0" for word in some_words(61)]
        self.assert_read(*stems[:60])
        self.assert_stem_refused(stems[60], *stems[:60])
        self.assert_stem_refused(stems[60], *eight_classes(), *stems[:60])

    def test_two_thousand_makings_and_one_more(self):
        rows = [
            *ending("A", *[f"0 {'x' * many} 0 0" for many in range(1, 7)]),
            *ending("B", "0 y 0 0", "0 yy 0 0", "0 yyy 0 0"),
            "beginning C", *[f"rule 0 {'z' * many} 0" for many in range(1, 5)],
        ]
        words = some_words(41)
        stems = [f"stem {word} ABC" for word in words]
        self.assertEqual(len(book_of(joined(*rows, *stems[:40])).words()), 2000)
        self.assert_stem_refused(f"stem {words[40]} 0", *rows, *stems[:40])
        # 39 stems of fifty makings and one of seven leave no room for fifty more.
        self.assert_stem_refused(stems[40], *rows, *stems[:39], f"stem {words[39]} A")


class AnyTextTest(TextsCase):
    def assert_first_wrong(self, rows):
        """The told line is the first one by which the rows can't be a text."""
        line = self.line_of(joined(*rows))
        good = len(rows) if line is None else line
        for many in range(1, good + 1):
            # Rows ahead are good: at most a rule is still missing at their end.
            told = self.line_of(joined(*rows[:many]))
            self.assertIn(told, (None, many))
            if told is not None:
                self.assertIn(rows[many - 1].split(" ")[0], ("ending", "beginning"))
        if line is not None and line < len(rows):
            for behind in ([], ROWS[:2], ["stem walk 0"], ["walk"]):
                self.assertEqual(self.line_of(joined(*rows[:line + 1], *behind)), line)

    def test_one_row_less(self):
        for place in range(len(ROWS)):
            self.assert_first_wrong(ROWS[:place] + ROWS[place + 1:])

    def test_two_rows_the_other_way_about(self):
        for one, other in itertools.combinations(range(len(ROWS)), 2):
            rows = list(ROWS)
            rows[one], rows[other] = rows[other], rows[one]
            self.assert_first_wrong(rows)

    def test_one_row_twice(self):
        for one, place in itertools.product(range(len(ROWS)), range(len(ROWS) + 1)):
            self.assert_first_wrong(ROWS[:place] + [ROWS[one]] + ROWS[place:])

    def test_one_sign_more_or_less_or_another_one(self):
        text = joined(*ROWS)
        for place in range(len(text)):
            for put in ("", "0", " ", "\n", "a", "A", ".", "B"):
                changed = text[:place] + put + text[place + 1:]
                line = self.line_of(changed)
                if line is None:
                    stems = changed.split("\n")[CLASSES:]
                    self.assertEqual(book_of(changed).text(),
                                     joined(*changed.split("\n")[:CLASSES], *sorted(stems)))
                else:
                    self.assertLessEqual(text[:place].count("\n"), line)
                    self.assertLessEqual(line, len(ROWS) + 1)

    def test_all_short_texts_of_a_few_rows(self):
        some = ["ending A", "rule 0 s 0 0", "rule 0 t 0 A", "ending B", "stem go A", ""]
        for many in range(1, 6):
            for rows in itertools.product(some, repeat=many):
                line = self.line_of(joined(*rows))
                self.assertEqual(line, first_wrong(rows), rows)


def first_wrong(rows):
    """The line for these few rows once more, by another way; None where they are a text."""
    there, now, stems = [], None, 0
    for number, row in enumerate(rows):
        if row in ("ending A", "ending B"):
            if stems or row[-1] in there or now and now[1] == 0:
                return number
            now = [row[-1], 0, ""]
            there.append(row[-1])
        elif row.startswith("rule"):
            if now is None or stems or now[1] == 6 or row[-1] == "A" and there != ["A", "B"]:
                return number
            now[1] += 1
        elif row == "stem go A":
            if stems or "A" not in there or now[1] == 0:
                return number
            stems += 1
        elif list(rows) != [""]:
            return number
    return len(rows) if now and now[1] == 0 else None


class ThingsTest(TextsCase):
    def test_zero_of_what_is_no_text(self):
        for thing in no_texts() + [["ending A"], ROWS, tuple(ROWS), {"": 1}, b"", Book(), Book]:
            self.assertEqual(self.line_of(thing), 0)

    def test_what_is_handed_in_is_not_changed(self):
        rows = list(ROWS)
        self.assertEqual(self.line_of(rows), 0)
        self.assertEqual(rows, ROWS)


if __name__ == "__main__":
    unittest.main()
