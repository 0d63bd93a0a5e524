import itertools
import random
import unittest

from wordmend import making
from wordmend.making import Band, made
from wordmend.rules import Beginning, Ending, Rule


def endings(*told):
    """A class of endings, of their parts."""
    return Band("ending", [Ending(*parts) for parts in told])


def beginnings(*told):
    """A class of beginnings, of their parts."""
    return Band("beginning", [Beginning(*parts) for parts in told])


def some_bands():
    """Classes of both kinds, with and without further ones."""
    return {
        "A": endings(("", "ing", "[^e]"), ("e", "ing", "")),
        "B": endings(("", "s", "[^s]")),
        "C": endings(("", "er", "[^e]", "B"), ("", "r", "e", "B")),
        "D": endings(("", "er", "", "AB"), ("e", "ation", "", "")),
        "U": beginnings(("", "un", "")),
        "V": beginnings(("", "re", "[^r]"), ("b", "p", "b")),
    }


def pairs_of(bands, names, kind):
    return [(name, number) for name in names if bands[name].kind == kind
            for number in range(len(bands[name].rules))]


def word_of(bands, told):
    """What comes of a making, or None."""
    word, beginning, ends = told
    for name, number in ends + ((beginning,) if beginning else ()):
        if word is not None:
            word = bands[name].rules[number].use(word)
    return word


def all_makings(bands, stem, names):
    """All makings once more, by another way: each one that could be is tried."""
    chains = [()]
    for first in pairs_of(bands, names, "ending"):
        further = bands[first[0]].rules[first[1]].further
        chains.append((first,))
        chains.extend((first, second) for second in pairs_of(bands, further, "ending"))
    tried = [(stem, beginning, chain) for chain in chains
             for beginning in [None, *pairs_of(bands, names, "beginning")]]
    rows = [(word_of(bands, one), one) for one in tried]
    # No pair begins with the empty text, so this stands ahead as None does.
    return sorted([row for row in rows if row[0] is not None],
                  key=lambda row: (row[0], row[1][2], row[1][1] or ("", -1)))


class BandTest(unittest.TestCase):
    def test_the_fields_are_as_told(self):
        rules = [Ending("", "s", ""), Ending("y", "ies", "")]
        one = Band("ending", rules)
        self.assertEqual(one.kind, "ending")
        self.assertEqual(one.rules, rules)
        self.assertIsInstance(one.rules, list)
        other = Band("beginning", [Beginning("", "un", "")])
        self.assertEqual(other.kind, "beginning")
        self.assertEqual([rule.text() for rule in other.rules], ["0 un 0"])

    def test_the_list_handed_in_may_be_changed_later(self):
        rules = [Ending("", "s", "")]
        one = Band("ending", rules)
        rules.append(Ending("", "t", ""))
        rules[0] = None
        self.assertEqual([rule.text() for rule in one.rules], ["0 s 0 0"])

    def test_two_of_one_list_have_lists_of_their_own(self):
        rules = [Ending("", "s", "")]
        one, other = Band("ending", rules), Band("ending", rules)
        self.assertIsNot(one.rules, other.rules)
        self.assertIsNot(one.rules, rules)

    def test_all_is_defined_in_its_file(self):
        for one in (Band, made):
            self.assertEqual(one.__module__, "wordmend.making")
            self.assertIs(getattr(making, one.__name__), one)


class MadeTest(unittest.TestCase):
    def test_no_class_the_stems_own_making(self):
        for bands in ({}, some_bands()):
            self.assertEqual(made(bands, "go", ""), [("go", ("go", None, ()))])
            self.assertEqual(made(bands, "abcdefghijklmnop", ""),
                             [("abcdefghijklmnop", ("abcdefghijklmnop", None, ()))])

    def test_a_class_of_endings(self):
        self.assertEqual(made(some_bands(), "bake", "A"),
                         [("bake", ("bake", None, ())),
                          ("baking", ("bake", None, (("A", 1),)))])
        self.assertEqual(made(some_bands(), "go", "A"),
                         [("go", ("go", None, ())),
                          ("going", ("go", None, (("A", 0),)))])

    def test_a_class_none_of_whose_rules_can_be_used(self):
        self.assertEqual(made(some_bands(), "is", "B"), [("is", ("is", None, ()))])
        self.assertEqual(made({"A": beginnings(("x", "y", ""))}, "is", "A"),
                         [("is", ("is", None, ()))])

    def test_a_class_of_beginnings(self):
        self.assertEqual(made(some_bands(), "bake", "V"),
                         [("bake", ("bake", None, ())),
                          ("pake", ("bake", ("V", 1), ())),
                          ("rebake", ("bake", ("V", 0), ()))])

    def test_classes_of_both(self):
        self.assertEqual(made(some_bands(), "go", "AU"),
                         [("go", ("go", None, ())),
                          ("going", ("go", None, (("A", 0),))),
                          ("ungo", ("go", ("U", 0), ())),
                          ("ungoing", ("go", ("U", 0), (("A", 0),)))])

    def test_a_further_class(self):
        self.assertEqual(made(some_bands(), "go", "C"),
                         [("go", ("go", None, ())),
                          ("goer", ("go", None, (("C", 0),))),
                          ("goers", ("go", None, (("C", 0), ("B", 0))))])

    def test_a_further_class_is_one_of_its_rule_alone(self):
        rows = made(some_bands(), "bake", "D")
        self.assertEqual(rows, [
            ("bakation", ("bake", None, (("D", 1),))),
            ("bake", ("bake", None, ())),
            ("bakeer", ("bake", None, (("D", 0),))),
            ("bakeering", ("bake", None, (("D", 0), ("A", 0)))),
            ("bakeers", ("bake", None, (("D", 0), ("B", 0)))),
        ])

    def test_a_further_class_is_not_one_of_the_stem(self):
        words = [word for word, _ in made(some_bands(), "go", "D")]
        self.assertIn("goers", words)
        self.assertNotIn("gos", words)

    def test_two_classes_of_the_stem_are_not_used_one_behind_the_other(self):
        bands = {"A": endings(("", "a", "")), "B": endings(("", "b", ""))}
        self.assertEqual([word for word, _ in made(bands, "q", "AB")], ["q", "qa", "qb"])
        bands = {"A": beginnings(("", "a", "")), "B": beginnings(("", "b", ""))}
        self.assertEqual([word for word, _ in made(bands, "q", "AB")], ["aq", "bq", "q"])

    def test_three_endings_are_not_used_one_behind_the_other(self):
        bands = {"A": endings(("", "a", "", "B")), "B": endings(("", "b", "", "C")),
                 "C": endings(("", "c", ""))}
        self.assertEqual([word for word, _ in made(bands, "q", "A")], ["q", "qa", "qab"])

    def test_a_beginning_is_never_a_further_one(self):
        bands = {"A": endings(("", "a", "", "B")), "B": beginnings(("", "b", ""))}
        self.assertEqual([word for word, _ in made(bands, "q", "A")], ["q", "qa"])
        self.assertEqual([word for word, _ in made(bands, "q", "AB")], ["bq", "bqa", "q", "qa"])

    def test_rules_that_can_be_used_just_one_behind_the_other(self):
        bands = {"A": endings(("", "x", "", "B")), "B": endings(("x", "yz", "ax"))}
        self.assertEqual(made(bands, "a", "A"), [
            ("a", ("a", None, ())),
            ("ax", ("a", None, (("A", 0),))),
            ("ayz", ("a", None, (("A", 0), ("B", 0)))),
        ])
        self.assertEqual([word for word, _ in made(bands, "b", "A")], ["b", "bx"])
        self.assertEqual([word for word, _ in made(bands, "a", "B")], ["a"])

    def test_the_endings_are_used_ahead_of_the_beginning(self):
        bands = {"A": endings(("b", "", "")), "U": beginnings(("", "u", "..")),
                 "V": beginnings(("a", "v", "ac")), "C": endings(("b", "c", ""))}
        self.assertEqual(made(bands, "ab", "AU"), [
            ("a", ("ab", None, (("A", 0),))),
            ("ab", ("ab", None, ())),
            ("uab", ("ab", ("U", 0), ())),
        ])
        self.assertEqual(made(bands, "ab", "CV"), [
            ("ab", ("ab", None, ())),
            ("ac", ("ab", None, (("C", 0),))),
            ("vc", ("ab", ("V", 0), (("C", 0),))),
        ])

    def test_at_no_step_more_than_sixteen_letters(self):
        bands = {"A": endings(("", "xy", "", "B")), "B": endings(("xy", "", "")),
                 "U": beginnings(("q", "", ""))}
        fits = "q" * 14
        self.assertEqual(made(bands, fits, "A"), [
            (fits, (fits, None, ())),
            (fits, (fits, None, (("A", 0), ("B", 0)))),
            (fits + "xy", (fits, None, (("A", 0),))),
        ])
        fits = "q" * 15
        self.assertEqual(made(bands, fits, "A"), [(fits, (fits, None, ()))])
        self.assertEqual(made(bands, fits, "AU"), [
            ("q" * 14, (fits, ("U", 0), ())),
            (fits, (fits, None, ())),
        ])
        fits = "q" * 16
        self.assertEqual(made({"U": beginnings(("", "u", ""))}, fits, "U"),
                         [(fits, (fits, None, ()))])

    def test_a_plain_rule_makes_nothing(self):
        for kind in ("ending", "beginning"):
            bands = {"A": Band(kind, [Rule("", "s", "")])}
            self.assertEqual(made(bands, "go", "A"), [("go", ("go", None, ()))])

    def test_the_kinds_of_what_is_told(self):
        rows = made(some_bands(), "go", "CU")
        self.assertIsInstance(rows, list)
        self.assertEqual(len(rows), 6)
        for row in rows:
            self.assertIsInstance(row, tuple)
            word, making_of_it = row
            self.assertIsInstance(word, str)
            self.assertIsInstance(making_of_it, tuple)
            stem, beginning, ends = making_of_it
            self.assertEqual(stem, "go")
            self.assertIn(beginning, (None, ("U", 0)))
            self.assertIsInstance(ends, tuple)
            for name, number in ends:
                self.assertIsInstance(name, str)
                self.assertIs(number.__class__, int)


class OrderTest(unittest.TestCase):
    def test_two_makings_of_one_word_by_endings_none_ahead(self):
        bands = {"A": endings(("", "a", "", "B"), ("", "ab", "")), "B": endings(("", "b", ""))}
        self.assertEqual(made(bands, "q", "A"), [
            ("q", ("q", None, ())),
            ("qa", ("q", None, (("A", 0),))),
            ("qab", ("q", None, (("A", 0), ("B", 0)))),
            ("qab", ("q", None, (("A", 1),))),
        ])

    def test_a_shorter_row_of_endings_stands_ahead(self):
        bands = {"A": endings(("", "a", "", "BC")), "B": endings(("a", "", "")),
                 "C": endings(("a", "", ""))}
        self.assertEqual(made(bands, "q", "A"), [
            ("q", ("q", None, ())),
            ("q", ("q", None, (("A", 0), ("B", 0)))),
            ("q", ("q", None, (("A", 0), ("C", 0)))),
            ("qa", ("q", None, (("A", 0),))),
        ])

    def test_endings_stand_ahead_of_beginnings(self):
        bands = {"A": endings(("", "q", ""), ("", "qq", "")),
                 "U": beginnings(("", "q", ""), ("", "qq", ""))}
        self.assertEqual(made(bands, "q", "AU"), [
            ("q", ("q", None, ())),
            ("qq", ("q", ("U", 0), ())),
            ("qq", ("q", None, (("A", 0),))),
            ("qqq", ("q", ("U", 1), ())),
            ("qqq", ("q", ("U", 0), (("A", 0),))),
            ("qqq", ("q", None, (("A", 1),))),
            ("qqqq", ("q", ("U", 1), (("A", 0),))),
            ("qqqq", ("q", ("U", 0), (("A", 1),))),
            ("qqqqq", ("q", ("U", 1), (("A", 1),))),
        ])

    def test_endings_count_ahead_of_beginnings_wherever_their_classes_stand(self):
        bands = {"A": endings(("", "bb", "", "B")), "B": endings(("b", "", "")),
                 "U": beginnings(("b", "", ""), ("b", "bb", ""))}
        rows = [making_of_it for word, making_of_it in made(bands, "bb", "AU") if word == "bbb"]
        self.assertEqual(rows, [
            ("bb", ("U", 1), ()),
            ("bb", ("U", 0), (("A", 0),)),
            ("bb", None, (("A", 0), ("B", 0))),
        ])
        bands = {"A": beginnings(("", "b", "")), "U": endings(("", "b", "")),
                 "V": endings(("", "b", ""))}
        rows = [making_of_it for word, making_of_it in made(bands, "b", "VAU") if word == "bb"]
        self.assertEqual(rows, [
            ("b", ("A", 0), ()),
            ("b", None, (("U", 0),)),
            ("b", None, (("V", 0),)),
        ])

    def test_none_ahead_of_a_beginning_of_the_same_word_and_endings(self):
        # Only the order is looked at: no rule can leave a word as it is.
        rows = [("b", ("b", ("A", 0), ())), ("b", ("b", None, ())), ("a", ("b", ("A", 0), ()))]
        self.assertEqual(sorted(rows, key=making.order), [rows[2], rows[1], rows[0]])

    def test_beginnings_by_class_and_number(self):
        bands = {"U": beginnings(("", "b", ""), ("c", "bc", "")), "V": beginnings(("", "b", ""))}
        rows = [making_of_it for word, making_of_it in made(bands, "c", "VU") if word == "bc"]
        self.assertEqual(rows, [("c", ("U", 0), ()), ("c", ("V", 0), ())])
        rows = [making_of_it for word, making_of_it in made(bands, "cc", "VU") if word == "bcc"]
        self.assertEqual(rows, [("cc", ("U", 0), ()), ("cc", ("U", 1), ()), ("cc", ("V", 0), ())])

    def test_names_in_another_order_make_the_same(self):
        bands = some_bands()
        first = made(bands, "bake", "ABCDUV")
        self.assertGreater(len(first), 12)
        for names in itertools.permutations("ABCDUV"):
            self.assertEqual(made(bands, "bake", "".join(names)), first)

    def test_bands_in_another_order_make_the_same(self):
        bands = some_bands()
        first = made(bands, "bake", "CDU")
        turned = {name: bands[name] for name in reversed(list(bands))}
        self.assertEqual(made(turned, "bake", "CDU"), first)

    def test_all_makings_by_another_way(self):
        chance = random.Random(5)
        letters = ["", "a", "b", "ab", "ba", "aa"]

        def parts():
            cut, added = chance.sample(letters, 2)
            return cut, added, chance.choice(["", "", "a", "[^a]", ".b"])

        for _ in range(300):
            further = ["", "", "A", "AB", "BC", "ABD"]
            bands = {name: endings(*[(*parts(), chance.choice(further)) for _ in range(3)])
                     for name in "ABCDE"}
            for name in "UVW":
                bands[name] = beginnings(*[parts() for _ in range(2)])
            names = "".join(chance.sample("ABCDEUVW", chance.randrange(9)))
            stem = "".join(chance.choice("ab") for _ in range(chance.choice([1, 2, 3, 14, 16])))
            rows = made(bands, stem, names)
            self.assertEqual(rows, all_makings(bands, stem, names))
            self.assertIn((stem, (stem, None, ())), rows)
            self.assertEqual(len(set(rows)), len(rows))


class ManyTest(unittest.TestCase):
    def test_more_classes_and_rules_than_a_book_would_have(self):
        names = "ABCDEFGHIJKLMNOPQRSTUVWXYZ"
        bands = {name: endings(*[("", letter, "") for letter in "abcdef"]) for name in names[:20]}
        for name in names[20:]:
            bands[name] = beginnings(*[("", letter, "") for letter in "abcdef"])
        rows = made(bands, "q", names)
        self.assertEqual(len(rows), (1 + 20 * 6) * (1 + 6 * 6))
        self.assertEqual(rows, all_makings(bands, "q", names))
        bands = {"A": endings(*[("", "a" * (k // 3) + "bcd"[k % 3], "") for k in range(18)])}
        self.assertEqual(len(made(bands, "q", "A")), 19)


class HandedInTest(unittest.TestCase):
    def test_told_lists_changed_and_asked_again(self):
        bands = some_bands()
        first = made(bands, "bake", "CU")
        kept = list(first)
        first.clear()
        second = made(bands, "bake", "CU")
        self.assertEqual(second, kept)
        second.reverse()
        second.append(None)
        self.assertEqual(made(bands, "bake", "CU"), kept)

    def test_what_is_handed_in_stays_as_it_is(self):
        bands = some_bands()
        kept = list(bands.items())
        told = [(band.kind, band.rules, list(band.rules)) for band in bands.values()]
        texts = [[rule.text() for rule in band.rules] for band in bands.values()]
        made(bands, "bake", "ABCDUV")
        self.assertEqual(list(bands.items()), kept)
        for band, (kind, rules, copied) in zip(bands.values(), told):
            self.assertEqual(band.kind, kind)
            self.assertIs(band.rules, rules)
            self.assertEqual(band.rules, copied)
        self.assertEqual([[rule.text() for rule in band.rules] for band in bands.values()], texts)

    def test_what_was_handed_in_may_be_changed_behind(self):
        bands = some_bands()
        rows = made(bands, "go", "CU")
        kept = list(rows)
        bands["C"] = endings(("", "q", ""))
        del bands["B"]
        self.assertEqual(rows, kept)
        self.assertEqual([word for word, _ in made(bands, "go", "CU")],
                         ["go", "goq", "ungo", "ungoq"])


if __name__ == "__main__":
    unittest.main()
