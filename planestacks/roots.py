"""The roots of a row: fractions as such, each other one between two fractions."""

from planestacks.chains import chain_of, changes_at
from planestacks.divisors import bare_row, quotient_of
from planestacks.fractions import below, fraction
from planestacks.rows import same_row, sign_of_value, slope
from planestacks.spans import cut_between, narrowed


def root_bound(h):
    """A whole number above the size of each root."""
    return max([abs(number) for number in h]) // abs(h[-1]) + 2


def ends_of_roots(h):
    """Two fractions, no roots, around each root of a bare row, rising."""
    chain = chain_of(h, slope(h))
    bound = root_bound(h)
    found = []
    waiting = [((-bound, 1), (bound, 1), changes_at(chain, "low"), changes_at(chain, "high"))]
    while waiting != []:
        low, high, first, last = waiting.pop()
        if first - last == 1:
            found.append((low, high))
        elif first - last > 1:
            cut = cut_between(h, low, high)
            there = changes_at(chain, cut)
            waiting.append((cut, high, there, last))
            waiting.append((low, cut, first, there))
    return found


def fraction_between(h, low, high):
    """The one root of a plain bare row between two ends, where it is a fraction; else None.

    The last number of h is a multiple of the bottom of such a root. So once the ends are nearer than
    two neighbours with this number for a bottom, only one fraction is left to be tried.
    """
    bottom = h[-1]
    h, low, high = narrowed((h, low, high), (1, 2 * bottom))
    if low == high:
        return low
    only = fraction(low[0] * bottom // low[1] + 1, bottom)
    return only if below(only, high) and sign_of_value(h, only) == 0 else None


def without_roots(h, roots):
    """The row less the roots among these that are fractions."""
    for root in roots:
        if root is not None:
            h = quotient_of(h, (-root[0], root[1]))
    return h


def roots_of(f):
    h = bare_row(f)
    ends = ends_of_roots(h)
    fractions = [fraction_between(h, low, high) for low, high in ends]
    others = without_roots(h, fractions)
    return [(same_row(others), low, high) if root is None else root
            for (low, high), root in zip(ends, fractions)]
