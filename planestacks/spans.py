"""Spans (h, low, high): one number, told by a row with each root once and two fractions.

The number is the only root of h between low and high, h not 0 at either; or low and high are one
fraction, a root of h, which it is.
"""

from planestacks.divisors import bare_row, shared_row
from planestacks.fractions import below, fraction, minus, plus, times
from planestacks.rows import sign_of_value


def middle_between(low, high):
    """A fraction in the middle half between two others.

    It is the one whose bottom is the least power of two, or else the one that is a multiple of the
    greatest, so that cutting again and again keeps the numbers short.
    """
    wide = minus(high, low)
    quarter = times(wide, (1, 4))
    first, last = plus(low, quarter), minus(high, quarter)
    scale = 1 << max(0, wide[1].bit_length() - wide[0].bit_length() + 2)
    least, most = -(-first[0] * scale // first[1]), last[0] * scale // last[1]
    step = 1
    while least < most:
        least, most, step = (least + 1) // 2, most // 2, 2 * step
    return fraction(least * step, scale)


def span_of(place):
    """The span of a place; its row is made bare, so that it changes its sign at the root."""
    if len(place) == 2:
        return ((-place[0], place[1]), place, place)
    return (bare_row(place[0]), place[1], place[2])


def narrowed(span, wide):
    """A span of the same number, within the first one, with ends at most wide apart.

    The ends are reckoned as whole numbers over one bottom, so that no terms need be made lowest on the way.
    """
    h, low, high = span
    first, last, bottom = low[0] * high[1], high[0] * low[1], low[1] * high[1]
    begins = sign_of_value(h, low)
    while (last - first) * wide[1] > wide[0] * bottom:
        cut, bottom = first + last, 2 * bottom
        sign = sign_of_value(h, (cut, bottom))
        first = cut if sign in (0, begins) else 2 * first
        last = cut if sign != begins else 2 * last
    return (h, fraction(first, bottom), fraction(last, bottom))


def same_number(a, b):
    """Whether the numbers of two spans are one; no end of what both hold is a root that they share."""
    low = b[1] if below(a[1], b[1]) else a[1]
    high = a[2] if below(a[2], b[2]) else b[2]
    if below(high, low):
        return False
    if low == high:
        return sign_of_value(a[0], low) == 0 and sign_of_value(b[0], low) == 0
    shared = shared_row(a[0], b[0])
    return sign_of_value(shared, low) != sign_of_value(shared, high)


def kept_apart(a, b):
    """Spans of the same two unlike numbers, narrowed until there is room between them."""
    wide = plus(minus(a[2], a[1]), minus(b[2], b[1]))
    while not below(a[2], b[1]) and not below(b[2], a[1]):
        wide = times(wide, (1, 2))
        a, b = narrowed(a, wide), narrowed(b, wide)
    return (a, b)


def order_of_spans(a, b):
    if same_number(a, b):
        return 0
    a, b = kept_apart(a, b)
    return -1 if below(a[2], b[1]) else 1
