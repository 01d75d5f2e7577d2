"""Whether what is told is of the kinds that the document names, to the word: no truth for a number, no list for a tuple."""

from math import gcd


def is_whole(thing):
    return type(thing) is int


def is_fraction(thing):
    return (type(thing) is tuple and len(thing) == 2 and all(is_whole(n) for n in thing)
            and thing[1] >= 1 and gcd(*thing) == 1)


def is_row(thing):
    return type(thing) is tuple and all(is_whole(n) for n in thing) and thing[-1:] != (0,)


def is_plain(thing):
    return is_row(thing) and (thing == () or thing[-1] > 0 and gcd(*thing) == 1)


def is_board(thing):
    return type(thing) is tuple and all(is_row(row) for row in thing) and thing[-1:] != ((),)
