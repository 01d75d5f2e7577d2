"""The roots of a row: fractions as such, each other one between two fractions."""

from planestacks.copies import told_anew
from planestacks.cuts import pieces_between
from planestacks.divisors import bare_row, quotient_of
from planestacks.fractions import below, fraction
from planestacks.rows import sign_of_value
from planestacks.spans import narrowed


def fraction_between(h, low, high):
    """The one root of a plain bare row between two ends, where it is a fraction; else None.

    The last number of h is a multiple of the bottom of such a root. So once the ends are nearer than
    two neighbours with this number for a bottom, only one fraction is left to be tried.
    """
    bottom = h[-1]
    h, low, high = narrowed((h, low, high), (1, 2 * bottom))
    if low == high:
        return low
    only = fraction(low[0] * bottom // low[1] + 1, bottom)
    return only if below(only, high) and sign_of_value(h, only) == 0 else None


def without_roots(h, roots):
    """The row less the roots among these that are fractions."""
    for root in roots:
        if root is not None:
            h = quotient_of(h, (-root[0], root[1]))
    return h


def roots_of(f):
    h = bare_row(f)
    ends = pieces_between(h, None, None)
    fractions = [fraction_between(h, low, high) for low, high in ends]
    others = without_roots(h, fractions)
    return [(told_anew(others), low, high) if root is None else root
            for (low, high), root in zip(ends, fractions)]
