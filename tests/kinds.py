"""Whether what is told is of the kinds that the document names, to the word: no truth for a number, no list for a tuple."""

from math import gcd


def is_whole(thing):
    return type(thing) is int


def is_fraction(thing):
    return (type(thing) is tuple and len(thing) == 2 and all(is_whole(n) for n in thing)
            and thing[1] >= 1 and gcd(*thing) == 1)


def is_row(thing):
    return type(thing) is tuple and all(is_whole(n) for n in thing) and thing[-1:] != (0,)


def is_plain(thing):
    return is_row(thing) and (thing == () or thing[-1] > 0 and gcd(*thing) == 1)


def is_board(thing):
    return type(thing) is tuple and all(is_row(row) for row in thing) and thing[-1:] != ((),)


class Odd:
    """A thing of a kind of its own, which is like nothing and cannot be asked anything."""

    def __eq__(self, other):
        raise AssertionError("it was compared")

    __hash__ = None


def things():
    """Things of many kinds that are no place, no height, no saying."""
    deep = ()
    for _ in range(90):
        deep = (deep,)
    return [None, True, False, 0, 1, -7, 10 ** 40, "", "x", "low", b"", b"x", [], {}, (), [1, 2], [1, 1], {1: 2},
            {1, 2}, {(1, 1)}, frozenset((1, 2)), range(2), len, Odd, Odd(), (Odd(), Odd()), (Odd(), 1), (1, Odd()),
            (Odd(), Odd(), Odd()), (1,), (1, 1, 1), (0, 1, 2), ("1", "2"), (None, None), ([1], [2]),
            ((1, 1), (2, 1)), deep, (deep, deep), (deep, deep, deep), "11", (1, 1, 1, 1)]
