"""Regions that anybody told: whether they are some, to the word."""

from planestacks.lineparts import order_told
from planestacks.places import is_place


def is_end(place, belongs):
    if place is None:
        return belongs is False
    return isinstance(belongs, bool) and is_place(place)


def has_some(part):
    """Whether there are numbers between the ends of a part, or one that is both of them and belongs to it."""
    low, low_in, high, high_in = part
    if low is None or high is None:
        return True
    order = order_told(low, high)
    return order == -1 or (order == 0 and low_in and high_in)


def is_part(thing):
    if not isinstance(thing, tuple) or len(thing) != 4:
        return False
    return is_end(thing[0], thing[1]) and is_end(thing[2], thing[3]) and has_some(thing)


def are_parted(one, other):
    """Whether the second of two parts is behind the first, and a number that belongs to neither between them."""
    if one[2] is None or other[0] is None:
        return False
    order = order_told(one[2], other[0])
    return order == -1 or (order == 0 and not one[3] and not other[1])


def is_region(thing):
    if not isinstance(thing, tuple) or not all([is_part(part) for part in thing]):
        return False
    return all([are_parted(thing[k - 1], thing[k]) for k in range(1, len(thing))])
