"""Chains of rows, and what their changes of sign tell of the roots between two ends."""

from planestacks.copies import told_anew
from planestacks.cuts import pieces_between
from planestacks.divisors import bare_row, rest_of
from planestacks.errors import NoEnds, NoRow
from planestacks.fractions import below
from planestacks.rows import other_sign, row_times, sign_of_value, slope
from planestacks.wholes import sign_of


def chain_of(f, g):
    if f == ():
        raise NoRow("the chain of 0 is not told")
    chain = [told_anew(f)]
    ahead, last = f, told_anew(g)
    while last != ():
        chain.append(last)
        ahead, last = last, other_sign(rest_of(ahead, last))
    return chain


def sign_toward(f, at):
    """The sign of a row at a fraction, or beyond all roots at the text low or high."""
    if at != "low" and at != "high":
        return sign_of_value(f, at)
    if f == ():
        return 0
    falls = at == "low" and len(f) % 2 == 0
    return -sign_of(f[-1]) if falls else sign_of(f[-1])


def changes_at(chain, at):
    signs = [sign for sign in [sign_toward(f, at) for f in chain] if sign != 0]
    return len([k for k in range(1, len(signs)) if signs[k - 1] != signs[k]])


def refuse_wrong_ends(f, low, high):
    if low is not None and high is not None and not below(low, high):
        raise NoEnds("the first end is not below the second one")
    for end in (low, high):
        if end is not None and sign_of_value(f, end) == 0:
            raise NoEnds("an end is a root")


def refuse_uncounted(f, low, high):
    if f == ():
        raise NoRow("the roots of 0 are not counted")
    refuse_wrong_ends(f, low, high)


def weigh_between(f, g, low, high):
    refuse_uncounted(f, low, high)
    chain = chain_of(f, row_times(slope(f), g))
    first = changes_at(chain, "low" if low is None else low)
    return first - changes_at(chain, "high" if high is None else high)


def count_between(f, low, high):
    """Counted by cuts: the chain would tell the same, but its numbers are longer."""
    refuse_uncounted(f, low, high)
    return len(pieces_between(bare_row(f), low, high))
