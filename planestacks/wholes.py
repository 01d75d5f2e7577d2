"""Whole numbers: which things are some, their signs, and what two of them share."""


def is_whole(thing):
    return isinstance(thing, int) and not isinstance(thing, bool)


def sign_of(number):
    return (number > 0) - (number < 0)


def common_divisor(a, b):
    """The greatest divisor of both, by rests; 0 of two noughts."""
    a, b = abs(a), abs(b)
    while b:
        a, b = b, a % b
    return a
