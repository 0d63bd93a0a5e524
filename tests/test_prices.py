import itertools
import random
import unittest

from tests.things import OTHER_SIGNS, SMALL, no_texts, no_wholes
from wordmend import prices
from wordmend.errors import BadPrice, MendError
from wordmend.prices import Prices, mending, price_of

MOST = 10 ** 9
METHODS = ["pair"]
NO_PRICES = [0, -1, -MOST, MOST + 1, 10 ** 5000, -10 ** 5000]


def mendings(one, other):
    """All mendings of one text to another one, each a list of pieces."""
    if one == "" and other == "":
        return [[]]
    found = []
    if one != "":
        found += [[("lose", one[0])] + rest for rest in mendings(one[1:], other)]
    if other != "":
        found += [[("put", other[0])] + rest for rest in mendings(one, other[1:])]
    if one != "" and other != "":
        piece = ("keep", one[0]) if one[0] == other[0] else ("other", one[0], other[0])
        found += [[piece] + rest for rest in mendings(one[1:], other[1:])]
    if len(one) > 1 and len(other) > 1 and one[0] != one[1]:
        if one[0] == other[1] and one[1] == other[0]:
            found += [[("turn", one[0], one[1])] + rest for rest in mendings(one[2:], other[2:])]
    return found


def cost(adding, losing, exchange, turning, pairs, pieces):
    """The price of a mending."""
    told = {"keep": 0, "lose": losing, "put": adding, "turn": turning}
    return sum(pairs.get(piece[1:], exchange) if piece[0] == "other" else told[piece[0]]
               for piece in pieces)


def ends_of(pieces):
    """The two words that a mending parts."""
    one = other = ""
    for name, *letters in pieces:
        if name in ("keep", "lose", "other", "turn"):
            one += letters[0]
        if name in ("keep", "put"):
            other += letters[0]
        if name == "other":
            other += letters[1]
        if name == "turn":
            one += letters[1]
            other += letters[1] + letters[0]
    return one, other


class PricesCase(unittest.TestCase):
    def assert_refused(self, *told):
        with self.assertRaises(MendError) as caught:
            Prices(*told)
        self.assertIs(caught.exception.__class__, BadPrice)

    def assert_mended(self, told, one, other, price, pieces):
        self.assertEqual(price_of(told, one, other), price)
        self.assertEqual(mending(told, one, other), pieces)

    def assert_least(self, numbers, pairs, one, other):
        """Price and mending are those that a look at all mendings finds."""
        told = Prices(*numbers, pairs)
        least = min((cost(*numbers, pairs, pieces), pieces) for pieces in mendings(one, other))
        self.assert_mended(told, one, other, *least)


class FieldsTest(PricesCase):
    def test_the_order_of_prices(self):
        told = Prices(1, 2, 3, 4)
        self.assertEqual((told.adding, told.losing, told.exchange, told.turning), (1, 2, 3, 4))

    def test_bounds(self):
        for place in range(4):
            for price in (1, 2, MOST - 1, MOST):
                numbers = [5, 6, 7, 8]
                numbers[place] = price
                told = Prices(*numbers)
                self.assertEqual([told.adding, told.losing, told.exchange, told.turning], numbers)
        Prices(MOST, MOST, MOST, MOST, {("a", "b"): MOST})
        Prices(1, 1, 1, 1, {("a", "b"): 1})

    def test_pairs_told_and_not_told(self):
        told = Prices(1, 2, 3, 4, {("a", "b"): 9, ("b", "c"): 1})
        self.assertEqual(told.pair("a", "b"), 9)
        self.assertEqual(told.pair("b", "a"), 3)
        self.assertEqual(told.pair("b", "c"), 1)
        self.assertEqual(told.pair("c", "b"), 3)
        self.assertEqual(told.pair("x", "y"), 3)

    def test_no_pairs(self):
        for told in (Prices(1, 2, 3, 4), Prices(1, 2, 3, 4, None), Prices(1, 2, 3, 4, {})):
            for one, other in itertools.permutations("abz", 2):
                self.assertEqual(told.pair(one, other), 3)

    def test_all_pairs(self):
        pairs = {pair: number + 1 for number, pair in enumerate(itertools.permutations(SMALL, 2))}
        told = Prices(1, 2, MOST, 4, pairs)
        for one, other in pairs:
            self.assertEqual(told.pair(one, other), pairs[one, other])

    def test_pairs_are_kept_as_they_are_then(self):
        pairs = {("a", "b"): 9}
        told = Prices(1, 2, 3, 4, pairs)
        pairs["a", "b"] = 5
        pairs["c", "d"] = 6
        self.assertEqual(told.pair("a", "b"), 9)
        self.assertEqual(told.pair("c", "d"), 3)
        pairs.clear()
        self.assertEqual(told.pair("a", "b"), 9)

    def test_pairs_are_not_changed(self):
        pairs = {("b", "a"): 9, ("a", "b"): 1}
        told = Prices(1, 2, 3, 4, pairs)
        mending(told, "ab", "ba")
        price_of(told, "ab", "ba")
        self.assertEqual(list(pairs.items()), [(("b", "a"), 9), (("a", "b"), 1)])

    def test_two_have_nothing_in_common(self):
        one = Prices(1, 2, 3, 4, {("a", "b"): 9})
        other = Prices(5, 6, 7, 8)
        self.assertEqual((one.adding, one.losing, one.exchange, one.turning), (1, 2, 3, 4))
        self.assertEqual(other.pair("a", "b"), 7)


class RefusalsTest(PricesCase):
    def test_what_is_no_price(self):
        for thing in NO_PRICES + no_wholes():
            with self.subTest(object.__repr__(thing)):
                for place in range(4):
                    told = [1, 1, 1, 1]
                    told[place] = thing
                    self.assert_refused(*told)
                    self.assert_refused(*told, {("a", "b"): 1})
                self.assert_refused(1, 1, 1, 1, {("a", "b"): thing})
                self.assert_refused(1, 1, 1, 1, {("a", "b"): 1, ("a", "c"): thing})

    def test_what_are_no_pairs(self):
        told = [thing for thing in no_texts() if thing is not None and not isinstance(thing, dict)]
        for thing in told + ["", "ab", [("a", "b")], (("a", "b"), 1), [(("a", "b"), 1)]]:
            with self.subTest(object.__repr__(thing)):
                self.assert_refused(1, 1, 1, 1, thing)

    def test_what_is_no_pair(self):
        others = [
            ("a", "a"), ("z", "z"), (), ("a",), ("a", "b", "c"), ("", "a"), ("a", ""), ("", ""),
            ("ab", "c"), ("a", "bc"), ("A", "b"), ("a", "B"), ("A", "B"), ("a", 1), (1, "a"),
            (1, 2), (None, "a"), ("a", None), (True, False), (("a",), "b"), ("a", ("b",)),
            ("a", b"b"), (b"a", "b"), "ab", "a", "", 1, 0, True, False, None, b"ab",
            frozenset("ab"), len, str,
        ]
        for thing in others:
            with self.subTest(repr(thing)):
                self.assert_refused(1, 1, 1, 1, {thing: 1})
                self.assert_refused(1, 1, 1, 1, {("a", "b"): 1, thing: 1})
                self.assert_refused(1, 1, 1, 1, {thing: 1, ("a", "b"): 1})
        for sign in OTHER_SIGNS:
            self.assert_refused(1, 1, 1, 1, {("a", sign): 1})
            self.assert_refused(1, 1, 1, 1, {(sign, "a"): 1})

    def test_several_at_once(self):
        self.assert_refused(0, True, "1", None, {"ab": 0})
        self.assert_refused(0, 1, 1, 1, 7)

    def test_what_is_refused_is_not_changed(self):
        pairs = {("b", "a"): 1, ("a", "a"): 2}
        self.assert_refused(1, 1, 1, 1, pairs)
        self.assertEqual(list(pairs.items()), [(("b", "a"), 1), (("a", "a"), 2)])


class PiecesTest(PricesCase):
    def test_keep(self):
        told = Prices(2, 2, 3, 2)
        self.assert_mended(told, "a", "a", 0, [("keep", "a")])
        self.assert_mended(told, "aba", "aba", 0, [("keep", "a"), ("keep", "b"), ("keep", "a")])
        word = SMALL[:16]
        self.assert_mended(told, word, word, 0, [("keep", letter) for letter in word])

    def test_lose(self):
        told = Prices(1, 7, 3, 4)
        self.assert_mended(told, "ab", "a", 7, [("keep", "a"), ("lose", "b")])
        self.assert_mended(told, "ab", "b", 7, [("lose", "a"), ("keep", "b")])
        self.assert_mended(told, "abcd", "ad", 14, [
            ("keep", "a"), ("lose", "b"), ("lose", "c"), ("keep", "d")])

    def test_put(self):
        told = Prices(7, 1, 3, 4)
        self.assert_mended(told, "a", "ab", 7, [("keep", "a"), ("put", "b")])
        self.assert_mended(told, "b", "ab", 7, [("put", "a"), ("keep", "b")])
        self.assert_mended(told, "ad", "abcd", 14, [
            ("keep", "a"), ("put", "b"), ("put", "c"), ("keep", "d")])

    def test_other(self):
        told = Prices(9, 9, 3, 9)
        self.assert_mended(told, "a", "b", 3, [("other", "a", "b")])
        self.assert_mended(told, "bat", "but", 3, [
            ("keep", "b"), ("other", "a", "u"), ("keep", "t")])
        self.assert_mended(told, "ab", "cd", 6, [("other", "a", "c"), ("other", "b", "d")])

    def test_other_by_its_pair(self):
        told = Prices(9, 9, 3, 9, {("a", "b"): 1, ("c", "d"): 17, ("e", "f"): 19})
        self.assert_mended(told, "a", "b", 1, [("other", "a", "b")])
        self.assert_mended(told, "b", "a", 3, [("other", "b", "a")])
        self.assert_mended(told, "c", "d", 17, [("other", "c", "d")])
        self.assert_mended(told, "d", "c", 3, [("other", "d", "c")])
        # Losing the one letter and putting the other one costs less than their pair.
        self.assert_mended(told, "e", "f", 18, [("lose", "e"), ("put", "f")])

    def test_turn(self):
        told = Prices(9, 9, 9, 4)
        self.assert_mended(told, "ab", "ba", 4, [("turn", "a", "b")])
        self.assert_mended(told, "ba", "ab", 4, [("turn", "b", "a")])
        self.assert_mended(told, "xaby", "xbay", 4, [
            ("keep", "x"), ("turn", "a", "b"), ("keep", "y")])
        self.assert_mended(told, "abcd", "badc", 8, [("turn", "a", "b"), ("turn", "c", "d")])

    def test_a_turn_is_side_by_side_in_both_words(self):
        told = Prices(9, 9, 9, 1)
        self.assert_mended(told, "ab", "bca", 27, [
            ("lose", "a"), ("keep", "b"), ("put", "c"), ("put", "a")])
        self.assert_mended(told, "acb", "ba", 27, [
            ("lose", "a"), ("lose", "c"), ("keep", "b"), ("put", "a")])

    def test_each_letter_stands_in_one_piece(self):
        # After a turn no letter is put between the two.
        told = Prices(1, 1, 9, 1)
        self.assert_mended(told, "ca", "abc", 3, [
            ("lose", "c"), ("keep", "a"), ("put", "b"), ("put", "c")])
        # Of three letters that go one place on only two can turn.
        cheap = Prices(9, 9, 9, 1)
        self.assert_mended(cheap, "abc", "bca", 18, [
            ("lose", "a"), ("keep", "b"), ("keep", "c"), ("put", "a")])
        self.assert_mended(cheap, "aba", "bab", 10, [("other", "a", "b"), ("turn", "b", "a")])

    def test_two_like_letters_are_no_turn(self):
        self.assert_mended(Prices(1, 1, 1, 1), "aa", "aa", 0, [("keep", "a"), ("keep", "a")])

    def test_a_turn_may_cost_more_than_other_pieces(self):
        self.assert_mended(Prices(2, 2, 3, 5), "ab", "ba", 4, [
            ("lose", "a"), ("keep", "b"), ("put", "a")])
        self.assert_mended(Prices(9, 9, 2, 5), "ab", "ba", 4, [
            ("other", "a", "b"), ("other", "b", "a")])

    def test_the_least_of_several(self):
        told = Prices(2, 2, 4, 4)
        # Lose and put, put and lose, or other: each costs 4.
        self.assert_mended(told, "a", "b", 4, [("lose", "a"), ("put", "b")])
        self.assert_mended(told, "aa", "a", 2, [("keep", "a"), ("lose", "a")])
        self.assert_mended(told, "a", "aa", 2, [("keep", "a"), ("put", "a")])
        self.assert_mended(told, "ab", "ba", 4, [("lose", "a"), ("keep", "b"), ("put", "a")])
        dear = Prices(8, 8, 1, 2)
        self.assert_mended(dear, "ab", "ba", 2, [("other", "a", "b"), ("other", "b", "a")])
        self.assert_mended(Prices(1, 1, 1, 1), "ab", "bc", 2, [
            ("lose", "a"), ("keep", "b"), ("put", "c")])
        self.assert_mended(Prices(3, 1, 4, 9), "ab", "c", 5, [
            ("lose", "a"), ("lose", "b"), ("put", "c")])

    def test_the_second_word_is_what_the_first_one_becomes(self):
        told = Prices(3, 5, 9, 9)
        self.assertEqual(price_of(told, "abc", "b"), 10)
        self.assertEqual(price_of(told, "b", "abc"), 6)

    def test_prices_at_their_bounds(self):
        self.assertEqual(price_of(Prices(MOST, MOST, MOST, MOST), "a" * 16, "b" * 16), 16 * MOST)
        self.assertEqual(price_of(Prices(1, MOST, MOST, MOST), "a", "b" * 16), 15 + MOST)
        self.assertEqual(price_of(Prices(MOST, MOST, MOST, 1), "ab" * 8, "ba" * 8), 8)
        self.assertEqual(price_of(Prices(1, 1, 1, 1), "ab" * 8, "ba" * 8), 2)
        self.assertEqual(price_of(Prices(1, 1, MOST, MOST), "a" * 16, "b" * 16), 32)

    def test_sixteen_letters(self):
        told = Prices(2, 2, 3, 2)
        one, other = "abcdefghijklmnop", "bacdefghijklmnpo"
        self.assert_mended(told, one, other, 4, [("turn", "a", "b")] + [
            ("keep", letter) for letter in "cdefghijklmn"] + [("turn", "o", "p")])
        self.assertEqual(price_of(told, "a" * 16, "b"), 33)
        self.assertEqual(len(mending(told, "a" * 16, "b" * 16)), 16)

    def test_kinds_of_values(self):
        told = Prices(2, 2, 3, 2)
        for one, other in (("a", "a"), ("ab", "ba"), ("abc", "xbyy")):
            self.assertIs(price_of(told, one, other).__class__, int)
            pieces = mending(told, one, other)
            self.assertIs(pieces.__class__, list)
            self.assertEqual({piece.__class__ for piece in pieces}, {tuple})

    def test_a_told_list_is_the_askers_own(self):
        told = Prices(2, 2, 3, 2)
        pieces = mending(told, "abc", "acb")
        kept = list(pieces)
        again = mending(told, "abc", "acb")
        pieces.clear()
        self.assertEqual(again, kept)
        again.append(("keep", "z"))
        self.assertEqual(mending(told, "abc", "acb"), kept)

    def test_all_short_words(self):
        words = ["".join(letters) for many in (1, 2, 3)
                 for letters in itertools.product("abc", repeat=many)]
        for one in words:
            for other in words:
                self.assert_least((2, 2, 3, 2), {}, one, other)

    def test_by_chance(self):
        chance = random.Random(5)
        for _ in range(300):
            numbers = [chance.randint(1, chance.choice((2, 4, 12))) for _ in range(4)]
            pairs = {pair: chance.randint(1, 12) for pair in itertools.permutations("abc", 2)
                     if chance.random() < 0.4}
            one, other = ("".join(chance.choices("abc", k=chance.randint(1, 5))) for _ in range(2))
            self.assert_least(numbers, pairs, one, other)

    def test_a_mending_parts_both_words_and_costs_its_price(self):
        chance = random.Random(6)
        for _ in range(60):
            numbers = [chance.randint(1, 9) for _ in range(4)]
            pairs = {("a", "b"): chance.randint(1, 9), ("c", "a"): chance.randint(1, 9)}
            told = Prices(*numbers, pairs)
            one, other = ("".join(chance.choices("abcd", k=chance.randint(9, 16)))
                          for _ in range(2))
            pieces = mending(told, one, other)
            self.assertEqual(ends_of(pieces), (one, other))
            self.assertEqual(cost(*numbers, pairs, pieces), price_of(told, one, other))
            for piece in pieces:
                if piece[0] in ("other", "turn"):
                    self.assertNotEqual(piece[1], piece[2])


class PlaceTest(unittest.TestCase):
    def test_all_are_defined_in_their_file(self):
        for one in (Prices, price_of, mending):
            self.assertEqual(one.__module__, "wordmend.prices")
            self.assertIs(getattr(prices, one.__name__), one)
        for name in METHODS:
            self.assertIn(name, vars(Prices))


if __name__ == "__main__":
    unittest.main()
