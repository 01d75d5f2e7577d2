"""Fractions: tuples (top, bottom) in lowest terms, the bottom from 1 on."""

from planestacks.errors import NoNumber
from planestacks.wholes import common_divisor, is_whole


def is_fraction(thing):
    """Whether a thing of any kind is a fraction."""
    if not isinstance(thing, tuple) or len(thing) != 2:
        return False
    top, bottom = thing
    return is_whole(top) and is_whole(bottom) and bottom >= 1 and common_divisor(top, bottom) == 1


def fraction(top, bottom):
    if bottom == 0:
        raise NoNumber("no number is something divided by 0")
    shared = common_divisor(top, bottom)
    if bottom < 0:
        shared = -shared
    return (top // shared, bottom // shared)


def plus(a, b):
    return fraction(a[0] * b[1] + b[0] * a[1], a[1] * b[1])


def minus(a, b):
    return fraction(a[0] * b[1] - b[0] * a[1], a[1] * b[1])


def times(a, b):
    return fraction(a[0] * b[0], a[1] * b[1])


def over(a, b):
    """a divided by b; fraction refuses the bottom of 0 that comes of a b that is 0."""
    return fraction(a[0] * b[1], a[1] * b[0])


def below(a, b):
    return a[0] * b[1] < b[0] * a[1]
