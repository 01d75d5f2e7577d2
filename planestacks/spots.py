"""Spots: places of which much is asked; their ends are narrowed as far as some answer needs it, and stay so."""

from planestacks.divisors import shared_row
from planestacks.fractions import fraction
from planestacks.rows import sign_of_value
from planestacks.spans import span_of
from planestacks.wholes import sign_of

MANY_HALVINGS = 24


class Spot:
    """The only root of a bare row between first and last, both over bottom; first itself where both are one.

    What is known holds of boards anywhere, not only above this spot, so that several spots may share it.
    """

    def __init__(self, place, known):
        h, low, high = span_of(place)
        self.row = h
        self.first = low[0] * high[1]
        self.last = high[0] * low[1]
        self.bottom = low[1] * high[1]
        self.begins = sign_of_value(h, low)
        self.halvings = 0
        self.known = known
        settle_line(self)

    def sign_of_cut(self, cut):
        return sign_of_value(self.row, cut)


def settle_line(spot):
    """Where the spot's row has one root only, this is known as a fraction."""
    if len(spot.row) == 2:
        spot.first = spot.last = -spot.row[0]
        spot.bottom = spot.row[1]


def is_exact(thing):
    return thing.first == thing.last


def low_end(thing):
    return fraction(thing.first, thing.bottom)


def high_end(thing):
    return fraction(thing.last, thing.bottom)


def halve(thing, many):
    """Halves the way between the ends of a spot or a height so many times, or until the root itself is met."""
    thing.halvings += many
    for k in range(many):
        if is_exact(thing):
            return
        cut = thing.first + thing.last
        thing.bottom *= 2
        sign = thing.sign_of_cut((cut, thing.bottom))
        thing.first = cut if sign in (0, thing.begins) else 2 * thing.first
        thing.last = cut if sign != thing.begins else 2 * thing.last


def halve_more(thing):
    halve(thing, MANY_HALVINGS)


def exact_bounds(pairs, thing):
    least, most, scale = 0, 0, 1
    for low, high in reversed(pairs):
        ends = (least * thing.first, most * thing.first)
        least = min(ends) + low * scale
        most = max(ends) + high * scale
        scale *= thing.bottom
    return (least, most)


def bits_of_room(thing):
    """So many bits behind the point that what is rounded off weighs little against the way between the ends."""
    return max(0, thing.bottom.bit_length() - (thing.last - thing.first).bit_length()) + 32


def rounded_bounds(pairs, thing):
    bits = bits_of_room(thing)
    first = (thing.first << bits) // thing.bottom
    last = -((-thing.last << bits) // thing.bottom)
    least, most = 0, 0
    for low, high in reversed(pairs):
        products = (least * first, least * last, most * first, most * last)
        least = (min(products) >> bits) + (low << bits)
        most = (high << bits) - (-max(products) >> bits)
    return (least, most)


def bounds_along(pairs, thing):
    """Two whole numbers between which a sum of powers lies at the number of a spot or a height.

    The numbers of the powers are told by pairs (least, most), from the power 0 on. The sum is meant times a number
    above 0 that is the same for all sums of as many powers, as long as the ends stay.
    """
    return exact_bounds(pairs, thing) if is_exact(thing) else rounded_bounds(pairs, thing)


def is_nought_there(row, spot):
    """Whether a row is 0 at a spot that isn't known as a fraction: whether what it shares with the spot's row is.

    What they share has each root once and none at the ends; where it is 0 at the spot it is all that is needed of the
    spot's row from then on.
    """
    shared = shared_row(row, spot.row)
    begins = sign_of_value(shared, (spot.first, spot.bottom))
    if begins == sign_of_value(shared, (spot.last, spot.bottom)):
        return False
    spot.row, spot.begins = shared, begins
    settle_line(spot)
    return True


def sign_there(row, spot):
    if len(row) < 2:
        return sign_of(row[0]) if row != () else 0
    tried = False
    while not is_exact(spot):
        least, most = bounds_along([(number, number) for number in row], spot)
        if least > 0 or most < 0:
            return sign_of(least + most)
        if spot.halvings > 0 and not tried:
            if is_nought_there(row, spot):
                return 0
            tried = True
        halve_more(spot)
    return sign_of_value(row, (spot.first, spot.bottom))
