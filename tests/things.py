"""What several tests hand in: the signs that texts are made of, and things that are no text."""

import string

SMALL = string.ascii_lowercase
# Tabs, line ends, and the signs from the blank to ~ without the percent sign.
SIGNS = "\t\n" + "".join(chr(k) for k in range(32, 127) if chr(k) != "\x25")
OTHER_SIGNS = "".join(sign for sign in SIGNS if sign not in SMALL)


class Unwilling:
    """A thing that can be neither shown, compared, measured, tested nor iterated over."""

    def refuse(self, *rest):
        raise RuntimeError("asked for too much")

    __repr__ = __str__ = __eq__ = __len__ = __bool__ = __iter__ = __hash__ = refuse
    __getitem__ = __contains__ = __lt__ = refuse


def no_texts():
    """Things of many kinds, none of them a text; made anew at each call."""
    deep = []
    for _ in range(100000):
        deep = [deep]
    itself = []
    itself.append(itself)
    return [
        0, 1, -1, 7, 10 ** 5000, True, False, None,
        [], ["a"], ["a", "b"], [["a"]], deep, itself,
        (), ("a",), ("a", "b"), {}, {"a": 1}, {"a": "b"}, {"a"},
        b"", b"a", b"abc", bytearray(b"a"),
        str, len, object(), Unwilling(), Unwilling,
    ]


def no_wholes():
    """Things of many kinds, none of them a whole number; made anew at each call."""
    others = [thing for thing in no_texts()
              if isinstance(thing, bool) or not isinstance(thing, int)]
    return others + ["", "0", "1", "7", "-1", "one", " 1", [0], [1], (1,), {1: 1}, b"1"]
