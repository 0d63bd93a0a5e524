import unittest

from tests.things import no_wholes
from wordmend.wholes import is_whole


class WholesTest(unittest.TestCase):
    def test_between_two_bounds(self):
        for number in range(-5, 20):
            self.assertIs(is_whole(number, 1, 9), 1 <= number <= 9)
            self.assertIs(is_whole(number, 0, 0), number == 0)
            self.assertIs(is_whole(number, 0, -1), False)

    def test_without_an_upper_bound(self):
        for number in (0, 1, 2, 10 ** 9, 10 ** 5000):
            self.assertIs(is_whole(number, 0), True)
        for number in (-1, -2, -10 ** 5000):
            self.assertIs(is_whole(number, 0), False)
        self.assertIs(is_whole(0, 1), False)

    def test_what_is_no_whole_number(self):
        for thing in no_wholes():
            with self.subTest(object.__repr__(thing)):
                self.assertIs(is_whole(thing, 0), False)
                self.assertIs(is_whole(thing, 0, 9), False)
                self.assertIs(is_whole(thing, -9, 9), False)


if __name__ == "__main__":
    unittest.main()
