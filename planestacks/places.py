"""Places on the line: fractions, and roots told by a row and two ends."""

from planestacks.chains import count_between
from planestacks.copies import told_anew
from planestacks.errors import NoEnds, NoPlace
from planestacks.fractions import below, is_fraction, minus, plus, times
from planestacks.rows import is_row
from planestacks.spans import kept_apart, middle_between, narrowed, order_of_spans, span_of
from planestacks.spots import Spot, sign_there


def is_root(thing):
    """Whether it is a tuple (f, low, high) that is a place."""
    if not isinstance(thing, tuple) or len(thing) != 3:
        return False
    f, low, high = thing
    if not is_row(f) or len(f) < 2 or not is_fraction(low) or not is_fraction(high):
        return False
    try:
        return count_between(f, low, high) == 1
    except NoEnds:
        return False


def is_place(thing):
    return is_fraction(thing) or is_root(thing)


def refuse_no_place(thing):
    if not is_place(thing):
        raise NoPlace("this is no place")


def sign_at(f, place):
    refuse_no_place(place)
    return sign_there(f, Spot(place, {}))


def order_of(one, other):
    refuse_no_place(one)
    refuse_no_place(other)
    return order_of_spans(span_of(one), span_of(other))


def whole_below(place):
    """A whole number below a place: below the fraction that it is, or up to its low end."""
    return (-(-place[0] // place[1]) - 1, 1) if len(place) == 2 else (place[1][0] // place[1][1], 1)


def whole_above(place):
    return (place[0] // place[1] + 1, 1) if len(place) == 2 else (-(-place[2][0] // place[2][1]), 1)


def between_two(one, other):
    a, b = span_of(one), span_of(other)
    if order_of_spans(a, b) != -1:
        raise NoEnds("the first place is not below the second one")
    a, b = kept_apart(a, b)
    return middle_between(a[2], b[1])


def place_between(one, other):
    for place in (one, other):
        if place is not None:
            refuse_no_place(place)
    if one is not None and other is not None:
        return between_two(one, other)
    if one is not None:
        return whole_above(one)
    return (0, 1) if other is None else whole_below(other)


def around(root, place, wide):
    """Two ends around a root that is a fraction, at most wide apart, within those of its place."""
    room = times(wide, (1, 2))
    for space in (minus(root, place[1]), minus(place[2], root)):
        room = space if below(space, room) else room
    return (minus(root, room), plus(root, room))


def finer(place, wide):
    refuse_no_place(place)
    if len(place) == 2:
        return told_anew(place)
    h, low, high = narrowed(span_of(place), wide)
    if low == high:
        low, high = around(low, place, wide)
    return (told_anew(place[0]), low, high)
