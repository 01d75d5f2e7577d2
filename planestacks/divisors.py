"""What rows leave, share and come to when they are divided, over fractions."""

from planestacks.errors import NoRow
from planestacks.moduli import shared_by_primes
from planestacks.rows import plain_row, put_low, row_of, slope, whole_quotient
from planestacks.wholes import common_divisor, sign_of


def step_down(rest, g):
    """The numbers (up, down) with up above 0, so that up * rest less down * g has lost its greatest power."""
    shared = common_divisor(rest[-1], g[-1])
    return (abs(g[-1]) // shared, sign_of(g[-1]) * rest[-1] // shared)


def divided(f, g):
    """Rows (q, r), r shorter than g: q * g + r is f times a whole number above 0."""
    if g == ():
        raise NoRow("a row is not divided by 0")
    quotient, rest = [], list(f)
    while len(rest) >= len(g):
        up, down = step_down(rest, g)
        shift = len(rest) - len(g)
        rest = [up * number for number in rest]
        for power, number in enumerate(g):
            rest[shift + power] -= down * number
        rest.pop()
        quotient = [down] + [up * number for number in quotient]
    return (row_of(quotient), row_of(rest))


def rest_of(f, g):
    return put_low(divided(f, g)[1])


def quotient_of(f, g):
    quotient, rest = divided(f, g)
    if rest != ():
        raise NoRow("the row does not divide the other one")
    return put_low(quotient)


def shared_by_rests(f, g):
    while g != ():
        f, g = g, rest_of(f, g)
    return plain_row(f)


def shared_row(f, g):
    f, g = plain_row(f), plain_row(g)
    if f == () or g == ():
        return f if g == () else g
    shared = shared_by_primes(f, g)
    return shared_by_rests(f, g) if shared is None else shared


def bare_row(f):
    if f == ():
        raise NoRow("0 has no bare row")
    low = plain_row(f)
    return whole_quotient(low, shared_row(low, slope(low)))
