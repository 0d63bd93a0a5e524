import unittest

from wordmend import errors
from wordmend.errors import BadText, MendError

NAMES = [
    "BadWord", "BadRule", "BadText", "Twice", "NoStem", "NoClass", "InUse",
    "TooMany", "NoNumber", "NoWord", "BadPrice", "NoPlace", "BadPattern",
]


def made(name):
    """One refusal of each class, as the program makes it."""
    if name == "BadText":
        return BadText(3)
    return getattr(errors, name)("why")


class ErrorsTest(unittest.TestCase):
    def test_any_refusal_is_a_value_error(self):
        self.assertEqual(MendError.__bases__, (ValueError,))
        with self.assertRaises(ValueError):
            raise MendError("why")

    def test_thirteen_stand_straight_under_it(self):
        self.assertEqual(len(NAMES), 13)
        for name in NAMES:
            with self.subTest(name):
                self.assertEqual(getattr(errors, name).__bases__, (MendError,))

    def test_none_is_under_another_one(self):
        classes = [getattr(errors, name) for name in NAMES]
        for one in classes:
            under = [other for other in classes if issubclass(one, other)]
            self.assertEqual(under, [one])

    def test_all_are_defined_in_their_file(self):
        for name in ["MendError", *NAMES]:
            self.assertEqual(getattr(errors, name).__module__, "wordmend.errors")
            self.assertEqual(getattr(errors, name).__name__, name)

    def test_each_is_caught_as_a_mend_error_and_as_itself(self):
        for name in NAMES:
            for caught in (getattr(errors, name), MendError, ValueError):
                with self.subTest(name, caught=caught.__name__):
                    with self.assertRaises(caught):
                        raise made(name)

    def test_bad_text_has_its_line(self):
        for line in (0, 1, 67):
            self.assertEqual(BadText(line).line, line)

    def test_each_has_its_own_line(self):
        one, other = BadText(1), BadText(2)
        self.assertEqual((one.line, other.line), (1, 2))


if __name__ == "__main__":
    unittest.main()
