"""Regions: tuples of parts (low, low_in, high, high_in) of the line."""

from planestacks.copies import told_anew
from planestacks.lineparts import order_told, same_part


def is_past(low, low_in, place):
    """Whether a place lies behind where a part begins, or at its beginning where this belongs to it."""
    order = -1 if low is None else order_told(low, place)
    return order == -1 or (order == 0 and low_in)


def is_ahead(high, high_in, place):
    order = -1 if high is None else order_told(place, high)
    return order == -1 or (order == 0 and high_in)


def in_region(region, place):
    return any([is_past(low, low_in, place) and is_ahead(high, high_in, place)
                for low, low_in, high, high_in in region])


def same_region(one, other):
    """No two parts touch, so each region has its parts in one way only, but for the forms of their ends."""
    return len(one) == len(other) and all([same_part(one[k], other[k]) for k in range(len(one))])


def end_told(end, belongs):
    if end is None:
        return ("endless",)
    return ("at" if belongs else "short", told_anew(end))


def least_of(region):
    if len(region) == 0:
        return ("none",)
    low, low_in, high, high_in = region[0]
    return end_told(low, low_in)


def greatest_of(region):
    if len(region) == 0:
        return ("none",)
    low, low_in, high, high_in = region[-1]
    return end_told(high, high_in)
