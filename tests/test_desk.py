import unittest

from tests.things import OTHER_SIGNS, SIGNS, SMALL, no_texts
from wordmend import desk
from wordmend.desk import Desk
from wordmend.keepers import Keeper
from wordmend.nearing import near, nearest
from wordmend.prices import Prices

CLASSES = [
    "class ending B 0 s [^s] 0, y ies [^aeiou]y 0",
    "class ending A 0 er [^e] B, 0 r e B",
    "class beginning U 0 un [^u]",
]
WORDS = ["bake", "baker", "bakers", "fly", "flies", "flys", "go", "goer", "goers", "gos", "ungo",
         "ungoer", "ungoers", "ungos"]
LINES = ["stem do AB", "gone go", "class ending C 0 x 0 0", "unclass A", "how goers", "number go",
         "word 3", "near go 4", "nearest go 3", "prices 1 1 1 1"]


def some_desk():
    """A desk with three classes and three stems."""
    made = Desk()
    for line in CLASSES + ["stem go BAU", "stem bake A", "stem fly B"]:
        made.say(line)
    return made


class DesksCase(unittest.TestCase):
    def assert_said(self, asked, *pairs):
        """Each line is answered so, one line behind the other."""
        for line, answer in pairs:
            with self.subTest(line):
                self.assertEqual(asked.say(line), answer)

    def assert_all(self, answer, *lines):
        """A desk answers each of these lines so, and is as it was."""
        asked = some_desk()
        for line in lines:
            with self.subTest(line):
                self.assertEqual(asked.say(line), answer)
        self.assert_as_it_was(asked)

    def assert_as_it_was(self, asked):
        """A desk has just what some_desk tells it."""
        rising = sorted(WORDS)
        for number, word in enumerate(rising):
            self.assertEqual(asked.say(f"word {number}"), word)
        self.assertEqual(asked.say(f"word {len(rising)}"), "no number")
        self.assertEqual(asked.say("near go 4"), "0 go ; 2 gos ; 4 goer ; 4 ungo")
        self.assertEqual(asked.say("how ungoers"), "go U0 A0 B0")
        self.assertEqual(asked.say("unclass C"), "no class")
        for name in "ABU":
            self.assertEqual(asked.say("unclass " + name), "in use")


class StemsTest(DesksCase):
    def test_words_come_and_go(self):
        asked = Desk()
        self.assert_said(
            asked,
            (CLASSES[0], "nothing"),
            (CLASSES[1], "nothing"),
            (CLASSES[2], "nothing"),
            ("stem go AU", "+go +goer +goers +ungo +ungoer +ungoers"),
            ("stem goers 0", "nothing"),
            ("gone go", "-go -goer -ungo -ungoer -ungoers"),
            ("stem fly B", "+flies +fly +flys"),
            ("gone goers", "-goers"),
            ("gone fly", "-flies -fly -flys"),
            ("stem a 0", "+a"),
            ("gone a", "-a"),
            ("word 0", "no number"),
        )

    def test_classes_come_and_go(self):
        asked = Desk()
        self.assert_said(
            asked,
            ("class ending B 0 s 0 0", "nothing"),
            ("class ending A 0 er 0 B", "nothing"),
            ("unclass B", "in use"),
            ("stem go A", "+go +goer +goers"),
            ("unclass A", "in use"),
            ("gone go", "-go -goer -goers"),
            ("unclass A", "nothing"),
            ("unclass B", "nothing"),
            ("unclass B", "no class"),
            ("class beginning B 0 un 0", "nothing"),
            ("stem go B", "+go +ungo"),
        )

    def test_no_classes_are_written_as_0(self):
        self.assert_said(some_desk(), ("stem do 0", "+do"), ("how do", "do - -"))

    def test_names_in_any_order(self):
        self.assert_said(some_desk(), ("stem do UAB", "+do +doer +doers +dos +undo +undoer "
                                       "+undoers +undos"))

    def test_one_rule_and_six(self):
        asked = Desk()
        self.assert_said(
            asked,
            ("class ending A 0 s 0 0", "nothing"),
            ("class ending B 0 a 0 0, 0 b 0 0, 0 c 0 0, 0 d 0 0, 0 e 0 0, 0 f 0 A", "nothing"),
            ("stem x B", "+x +xa +xb +xc +xd +xe +xf +xfs"),
            ("how xfs", "x - B5 A0"),
            ("class ending C 0 a 0 0, 0 b 0 0, 0 c 0 0, 0 d 0 0, 0 e 0 0, 0 f 0 0, 0 g 0 0",
             "bad rule"),
        )

    def test_conditions_and_cuts(self):
        asked = Desk()
        self.assert_said(
            asked,
            ("class ending A y ies [^aeiou]y 0, 0 s [aeiou]y 0", "nothing"),
            ("class beginning B be 0 0, 0 a [^ab]", "nothing"),
            ("stem try AB", "+atries +atry +tries +try"),
            ("stem belay AB", "+belay +belays +lay +lays"),
        )


class HowTest(DesksCase):
    def test_makings(self):
        self.assert_said(
            some_desk(),
            ("how go", "go - -"),
            ("how goers", "go - A0 B0"),
            ("how baker", "bake - A1"),
            ("how ungo", "go U0 -"),
            ("how ungos", "go U0 B0"),
            ("how ungoers", "go U0 A0 B0"),
            ("how flies", "fly - B1"),
            ("how zebra", "nothing"),
            ("how un", "nothing"),
        )

    def test_several_makings(self):
        asked = some_desk()
        self.assert_said(
            asked,
            ("stem goer BU", "nothing"),
            ("how goers", "go - A0 B0 ; goer - B0"),
            ("how ungoers", "go U0 A0 B0 ; goer U0 B0"),
            ("stem goers 0", "nothing"),
            ("how goers", "go - A0 B0 ; goer - B0 ; goers - -"),
            ("class ending C 0 s 0 0, 0 es 0 0, s ss 0 0", "nothing"),
            ("stem do C", "+do +does +dos"),
            ("how doss", "nothing"),
            ("class ending D 0 s 0 0, 0 s o 0", "nothing"),
            ("stem no DC", "+no +noes +nos"),
            ("how nos", "no - C0 ; no - D0 ; no - D1"),
        )

    def test_no_words(self):
        self.assertEqual(Desk().say("how go"), "nothing")


class NumbersTest(DesksCase):
    def test_numbers_and_words(self):
        asked = some_desk()
        for number, word in enumerate(sorted(WORDS)):
            self.assertEqual(asked.say(f"word {number}"), word)
            self.assertEqual(asked.say(f"number {word}"), f"{number}")

    def test_what_is_not_there(self):
        self.assert_all("no number", "number zebra", "number un", "number goe", "word 14", "word 15",
                        "word 999999999999", "number Go", "number GO", "number 0", "number -",
                        "number " + "q" * 17, "number go,", "number g\to")
        for line in ("number go", "word 0"):
            self.assertEqual(Desk().say(line), "no number")

    def test_what_is_no_number(self):
        self.assert_all("no number", "word 00", "word 01", "word 007", "word -1", "word -0", "word +1",
                        "word 1.", "word 1.0", "word one", "word go", "word 0x1", "word 1_0",
                        "word 1e1", "word 1,2", "word 0000000000001", "word 1000000000000",
                        "word 9999999999999", "word 000000000000", "word " + "1" * 10000, "word \t1",
                        "word 1\t", "word A", "word None", "word True")

    def test_each_sign_amid_a_number(self):
        asked = some_desk()
        for sign in SIGNS:
            if sign not in "0123456789 \n":
                for text in (sign, sign + "1", "1" + sign, "1" + sign + "1"):
                    self.assertEqual(asked.say("word " + text), "no number")
                    self.assertEqual(asked.say("near go " + text), "bad price")
        self.assert_as_it_was(asked)

    def test_each_figure(self):
        asked = Desk()
        for letter in SMALL:
            asked.say(f"stem {letter} 0")
        for number, letter in enumerate(SMALL):
            self.assertEqual(asked.say(f"word {number}"), letter)


class NearTest(DesksCase):
    def test_near(self):
        self.assert_said(
            some_desk(),
            ("near go 0", "0 go"),
            ("near go 2", "0 go ; 2 gos"),
            ("near goo 2", "2 go"),
            ("near og 2", "2 go"),
            ("near zebra 3", "nothing"),
            ("near zebra 0", "nothing"),
        )
        self.assertEqual(Desk().say("near go 999999999999"), "nothing")
        self.assertEqual(len(some_desk().say("near go 999999999999").split(" ; ")), 14)

    def test_nearest(self):
        self.assert_said(
            some_desk(),
            ("nearest go 1", "0 go"),
            ("nearest go 2", "0 go ; 2 gos"),
            ("nearest flie 3", "2 flies ; 5 fly ; 6 flys"),
        )
        self.assertEqual(len(some_desk().say("nearest zebra 50").split(" ; ")), 14)
        self.assertEqual(len(some_desk().say("nearest zebra 13").split(" ; ")), 13)
        self.assertEqual(Desk().say("nearest go 50"), "nothing")

    def test_they_tell_what_the_machine_tells(self):
        asked = some_desk()
        keeper = Keeper()
        for word in WORDS:
            keeper.put_stem(word, "")
        machine = keeper.machine()
        told = (2, 2, 3, 2)
        for numbers in (told, (1, 1, 1, 1), (9, 1, 5, 3), (1, 9, 2, 1), (10 ** 9, 1, 7, 10 ** 9)):
            if numbers != told:
                self.assertEqual(asked.say("prices " + " ".join(map(str, numbers))), "done")
            for word in ("go", "gers", "xx", "ungoersungo"):
                for bound in (1, 4, 9, 50):
                    rows = near(machine, Prices(*numbers), word, bound)
                    self.assertEqual(asked.say(f"near {word} {bound}"), " ; ".join(
                        f"{price} {other}" for price, other in rows) or "nothing")
                    rows = nearest(machine, Prices(*numbers), word, bound)
                    self.assertEqual(asked.say(f"nearest {word} {bound}"), " ; ".join(
                        f"{price} {other}" for price, other in rows))

    def test_prices(self):
        asked = Desk()
        for word in ("a", "ab", "ba", "bc"):
            asked.say(f"stem {word} 0")
        self.assert_said(
            asked,
            ("nearest ab 9", "0 ab ; 2 a ; 2 ba ; 4 bc"),
            ("prices 1 2 3 4", "done"),
            ("nearest ab 9", "0 ab ; 2 a ; 3 ba ; 3 bc"),
            ("nearest a 9", "0 a ; 1 ab ; 1 ba ; 4 bc"),
            ("prices 9 1 9 7", "done"),
            ("nearest ab 9", "0 ab ; 1 a ; 7 ba ; 10 bc"),
            ("prices 9 9 4 9", "done"),
            ("nearest ab 9", "0 ab ; 8 ba ; 8 bc ; 9 a"),
            ("prices 1000000000 1000000000 1000000000 1000000000", "done"),
            ("near ab 1000000000", "0 ab ; 1000000000 a ; 1000000000 ba"),
            ("prices 1 1 1 1", "done"),
            ("near ab 1", "0 ab ; 1 a ; 1 ba"),
        )

    def test_bad_prices(self):
        self.assert_all("bad price", "near go 00", "near go 01", "near go -1", "near go x", "near go 1.",
                        "near go 1000000000000", "near go " + "1" * 5000, "nearest go 0",
                        "nearest go 51", "nearest go 01", "nearest go 00", "nearest go -1",
                        "nearest go 100", "nearest go x", "nearest go 0000000000001",
                        "nearest go 999999999999", "near go go", "nearest go go")
        bad = ["0", "-1", "01", "1000000001", "1000000000000", "999999999999", "x", "00", "1,", "+1"]
        for place in range(4):
            for text in bad:
                told = ["1", "1", "1", "1"]
                told[place] = text
                self.assert_all("bad price", "prices " + " ".join(told))

    def test_a_bad_word_ahead_of_a_bad_price(self):
        self.assert_all("bad word", "near Go 1", "near Go x", "near 1 01", "near - -1", "nearest Go 1",
                        "nearest Go 0", "nearest Go 51", "nearest GO x", "near " + "q" * 17 + " x",
                        "nearest g\to 0", "near 1 go", "nearest 1 go")

    def test_refused_prices_change_nothing(self):
        asked = some_desk()
        self.assertEqual(asked.say("prices 9 9 9 0"), "bad price")
        self.assert_as_it_was(asked)


class PagesTest(DesksCase):
    def test_wrong_words(self):
        self.assert_said(
            some_desk(),
            ("page go", "right"),
            ("page Go, GO; baker.", "right"),
            ("page gO", "0 gO"),
            ("page The baker geos", "0 The ; 10 geos"),
            ("page xx go  Yy\tzz", "0 xx ; 7 Yy ; 10 zz"),
            ("page " + "q" * 17, "0 " + "q" * 17),
            ("page page", "0 page"),
            ("page don't", "0 don ; 4 t"),
            ("page stem do 0", "0 stem ; 5 do"),
        )

    def test_texts_without_a_letter(self):
        self.assert_all("right", "page ", "page  ", "page   ", "page 12", "page \t", "page 1 go 2",
                        "page  go", "page go ", "page  go  go  ")

    def test_places_are_those_of_the_text(self):
        self.assert_said(some_desk(), ("page  x", "1 x"), ("page x ", "0 x"), ("page   x", "2 x"))

    def test_pages_go_with_the_words(self):
        self.assert_said(Desk(), ("page go", "0 go"), ("stem go 0", "+go"), ("page go", "right"),
                         ("gone go", "-go"), ("page go", "0 go"), ("page ", "right"))

    def test_no_blank_behind(self):
        self.assert_all("no line", "page", "pages", "pages go", "Page go", " page go", "page\tgo",
                        "page\n", "page go\n", "page go\ngo", "page \n", "\npage go")


class RefusalsTest(DesksCase):
    def test_bad_words(self):
        self.assert_all("bad word", "stem Go A", "stem 0 0", "stem go1 A", "stem 1 1", "stem Go aa",
                        "stem " + "q" * 17 + " A", "stem A do", "stem g\to A", "stem go, A", "how Go",
                        "how 0", "how -", "how " + "q" * 17, "how go\t")

    def test_bad_rules(self):
        self.assert_all("bad rule", "stem do a", "stem do AA", "stem do ABUCD", "stem do 00", "stem do 0A",
                        "stem do A0", "stem do A,B", "stem do 1", "stem go aa", "stem go AA")
        self.assert_all(
            "bad rule",
            "class noun C 0 x 0 0", "class Ending C 0 x 0 0", "class 0 C 0 x 0 0", "class C ending 0 x",
            "class ending c 0 x 0 0", "class ending CD 0 x 0 0", "class ending 0 0 x 0 0",
            "class ending C 0", "class ending C 0 x", "class ending C 0 x 0", "class ending C 0 x 0 0 0",
            "class beginning C 0 x 0 0", "class beginning C 0 x", "class ending C 0 0 0 0",
            "class ending C 0 x [] 0", "class ending C 0 x 0 BA", "class ending C 0 x 0 b",
            "class ending C 0 x 0 0,", "class ending C 0 x 0 0, ,", "class ending C 0 x 0 0,0 y 0 0",
            "class ending C , 0 x 0 0", "class ending C 0 x 0 0 , 0 y 0 0", "class ending C ,",
            "class ending C 0 x 0 0, 0 y 0", "class ending C 0, x 0 0", "class ending C 0 x 0 0, , 0 y 0 0",
            "class ending C 0 x 0 0; 0 y 0 0", "class ending C abcde x 0 0", "class ending C 0 abcdefg 0 0",
            "class ending C 0 x abcd 0", "class ending C 0 x 0 0, 0 x 0 0 0", "class ending C rule",
            "class ending A 0 x", "class ending C 0 x 0 0\t",
        )

    def test_bad_rules_ahead_of_what_a_book_refuses(self):
        # Each of these would be twice, or no class, if its rules were good.
        self.assert_all("bad rule", "class ending A x", "class noun A 0 x 0 0", "class beginning A 0 x 0 0",
                        "class ending C 0 x 0 Z, 0 y 0", "class ending c 0 x 0 Z",
                        "class ending A 0 x 0 0, 0 y", "class ending A" + ", 0 x 0 0" * 7,
                        "class ending A " + ", ".join(["0 x 0 0"] * 7))

    def test_twice(self):
        self.assert_all("twice", "stem go A", "stem go 0", "stem go Z", "class ending A 0 x 0 0",
                        "class beginning A 0 x 0", "class ending U 0 x 0 Z", "class ending A 0 x 0 A")

    def test_no_stem(self):
        self.assert_all("no stem", "gone do", "gone gos", "gone Go", "gone 0", "gone zebra", "gone A",
                        "gone " + "q" * 17, "gone go,", "gone g\to")

    def test_no_class(self):
        self.assert_all("no class", "stem do Z", "stem do AZ", "stem do ZA", "unclass C", "unclass a",
                        "unclass AB", "unclass 0", "unclass ending", "class ending C 0 x 0 Z",
                        "class ending C 0 x 0 U", "class ending C 0 x 0 A", "class ending C 0 x 0 C",
                        "class ending C 0 x 0 0, 0 y 0 BZ")

    def test_in_use(self):
        self.assert_all("in use", "unclass A", "unclass B", "unclass U")

    def test_too_many(self):
        asked = Desk()
        for name in "ABCDEFGH":
            self.assertEqual(asked.say(f"class ending {name} 0 s 0 0"), "nothing")
        self.assert_said(asked, ("class ending I 0 s 0 0", "too many"),
                         ("class ending A 0 s 0 0", "twice"), ("class ending I 0 s 0", "bad rule"),
                         ("class ending I 0 s 0 Z", "too many"))
        for number in range(60):
            word = "q" * (number % 15 + 1) + "abcd"[number // 15]
            self.assertEqual(asked.say(f"stem {word} 0"), "+" + word)
        self.assert_said(asked, ("stem go 0", "too many"), ("stem go Z", "no class"),
                         ("stem qa 0", "twice"), ("stem Go 0", "bad word"), ("gone qa", "-qa"),
                         ("stem go A", "+go +gos"))

    def test_a_word_too_few_or_too_many(self):
        lines = [
            "stem", "stem do", "stem do A B", "stem do A 0", "gone", "gone go go", "gone go 0", "class",
            "class ending", "class ending C", "class beginning C", "class noun", "class noun c", "unclass",
            "unclass C C", "unclass A B", "how", "how go go", "number", "number go go", "word",
            "word 1 2", "near", "near go", "near go 1 2", "near 1", "nearest", "nearest go",
            "nearest go 1 2", "prices", "prices 1", "prices 1 1", "prices 1 1 1", "prices 1 1 1 1 1",
            "prices x", "stem Go", "near Go", "gone Go Go",
        ]
        self.assert_all("no line", *lines)

    def test_another_first_word(self):
        self.assert_all("no line", "", "Stem do 0", "STEM do 0", "stems do 0", "tem do 0", "go", "0",
                        "put do 0", "take go", "words", "text", "nears go 1", "price 1 1 1 1", "right",
                        "nothing", "rule 0 x 0 0", "ending C", "stem-do 0", "+go", "-go", "no line")

    def test_a_blank_too_many(self):
        for line in LINES:
            lines = [" " + line, line + " ", "  " + line, line + "  ", " " + line + " "]
            lines += [line[:place] + " " + line[place:] for place, sign in enumerate(line) if sign == " "]
            self.assert_all("no line", *lines)
        self.assert_all("no line", " ", "  ", "stem ", "stem  ", "stem do ", "gone ", "how ",
                        "class ending C ", "class ending  0 x 0 0", "class ending C 0 x 0 0,  0 y 0 0",
                        "class ending C 0 x 0 0  , 0 y 0 0", "word ", "prices 1 1 1 ")

    def test_a_line_end(self):
        for line in LINES:
            lines = ["\n" + line, line + "\n", line + "\n" + line, line[:2] + "\n" + line[2:]]
            lines += [line.replace(" ", "\n"), line.replace(" ", "\n", 1), line.replace(" ", " \n")]
            lines += [line[:-1] + "\n" + line[-1]]
            self.assert_all("no line", *lines)
        self.assert_all("no line", "\n", "\n\n", " \n", "stem\n")

    def test_tabs_are_no_blanks(self):
        for line in LINES:
            self.assert_all("no line", line.replace(" ", "\t", 1), "\t" + line, line.replace(" ", "\t"))

    def test_another_sign_behind_a_first_word(self):
        asked = some_desk()
        for sign in OTHER_SIGNS:
            if sign != " ":
                for line in LINES:
                    head, _, rest = line.partition(" ")
                    self.assertEqual(asked.say(head + sign + " " + rest), "no line")
                    self.assertEqual(asked.say(sign + line), "no line")
        self.assert_as_it_was(asked)

    def test_what_is_no_text(self):
        asked = some_desk()
        for thing in no_texts() + [["stem", "do", "0"], ("gone", "go"), b"gone go"]:
            with self.subTest(object.__repr__(thing)):
                self.assertEqual(asked.say(thing), "no line")
        self.assert_as_it_was(asked)

    def test_the_good_lines_are_lines(self):
        for line in LINES:
            self.assertNotIn(some_desk().say(line), ("no line", "bad word", "bad rule", "bad price"))


class DeskTest(DesksCase):
    def test_an_empty_desk(self):
        self.assert_said(Desk(), ("word 0", "no number"), ("how go", "nothing"),
                         ("nearest go 1", "nothing"), ("gone go", "no stem"), ("unclass A", "no class"),
                         ("page go", "0 go"))

    def test_desks_have_nothing_in_common(self):
        one, other = Desk(), Desk()
        one.say("stem go 0")
        one.say("prices 1 1 1 1")
        self.assert_said(other, ("word 0", "no number"), ("stem do 0", "+do"), ("near d 2", "2 do"),
                         ("near d 1", "nothing"))
        self.assert_said(one, ("near g 1", "1 go"), ("word 1", "no number"))

    def test_answers_are_texts(self):
        asked = Desk()
        for line in CLASSES + LINES + ["stem go AU", "page xx", "page", "", None, 7, "word 0"]:
            self.assertIs(asked.say(line).__class__, str)

    def test_the_class_and_its_method_are_defined_in_their_file(self):
        self.assertEqual(Desk.__module__, "wordmend.desk")
        self.assertIs(desk.Desk, Desk)
        self.assertIn("say", vars(Desk))


if __name__ == "__main__":
    unittest.main()
