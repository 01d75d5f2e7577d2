"""Boards above a spot: sums of powers of y whose numbers are the values of rows there.

A board is upright above a spot where the row of its greatest power of y isn't 0 there; () is 0 there.
"""

from planestacks.boardrests import divided_boards, made_low
from planestacks.boards import board_minus, board_of, length_of_rows, row_above, slope_up
from planestacks.cuts import pieces_between
from planestacks.divisors import bare_row
from planestacks.fractions import fraction
from planestacks.rows import part_at, row_of
from planestacks.spots import bounds_along, is_exact, low_end, sign_there


def cut_at_top(f, spot):
    """The board without the greatest powers of y whose rows are 0 at the spot."""
    many = len(f)
    while many > 0 and sign_there(f[many - 1], spot) == 0:
        many -= 1
    return f[:many]


def board_of_numbers(numbers):
    return board_of([(number,) if number != 0 else () for number in numbers])


def upright(f, spot):
    """The board, upright, with the same roots above the spot; its rows are numbers where the spot is a fraction."""
    if is_exact(spot):
        return board_of_numbers(row_above(f, low_end(spot)))
    return cut_at_top(f, spot)


def row_at_height(f, y):
    """The row in x of a board at a fraction y, times a number above 0."""
    top, bottom = y
    numbers, scale = [0] * length_of_rows(f), 1
    for row in reversed(f):
        numbers = [top * number for number in numbers]
        for power, number in enumerate(row):
            numbers[power] += number * scale
        scale *= bottom
    return row_of(numbers)


def sign_at_height(f, y, spot):
    return sign_there(row_at_height(f, y), spot)


def rest_anywhere(f, g, known):
    """A rest of f by g made low, the row by which it was divided, and how often g's last row was multiplied in."""
    if (f, g) not in known:
        quotient, rest, many = divided_boards(f, g)
        low, shared = made_low(rest)
        known[(f, g)] = (low, shared, many)
    return known[(f, g)]


def rest_there(f, g, spot):
    """A sign and a board: times this sign, and times some number above 0, it is the rest of f by g; all upright.

    The sign is told apart, so that what is known of some boards isn't asked for again with other signs.
    """
    if len(g) == 1:
        return (1, ())
    low, shared, many = rest_anywhere(f, g, spot.known)
    sign = sign_there(shared, spot)
    if sign == 0:
        return (1, ())
    if many & 1:
        sign *= sign_there(g[-1], spot)
    return (sign, cut_at_top(low, spot))


def shared_there(f, g, spot):
    """The upright board of greatest power of y that divides both above the spot."""
    while g != ():
        f, g = g, rest_there(f, g, spot)[1]
    return f


def chain_there(f, spot):
    """The chain of an upright board, not (), and its slope by y, each times a number above 0."""
    chain, signs = [f], [1, 1]
    last = slope_up(f)
    while last != ():
        chain.append(last)
        sign, last = rest_there(chain[-2], last, spot)
        signs.append(-signs[-2] * sign)
    return [g if sign > 0 else board_minus((), g) for g, sign in zip(chain, signs)]


def bare_there(f, spot):
    """An upright board with the roots above the spot of an upright one, not (), each once."""
    if is_exact(spot):
        return board_of_numbers(bare_row(row_above(f, low_end(spot))))
    shared = chain_there(f, spot)[-1]
    return f if len(shared) == 1 else made_low(divided_boards(f, shared)[0])[0]


def changes_there(chain, y, spot):
    """The changes of sign of a chain at a fraction y above the spot."""
    signs = [sign for sign in [sign_at_height(f, y, spot) for f in chain] if sign != 0]
    return len([k for k in range(1, len(signs)) if signs[k - 1] != signs[k]])


def row_bounds(f, spot):
    """For each row of a board two whole numbers between which its value at the spot lies, all times one number."""
    many = length_of_rows(f)
    padded = [[part_at(row, power, 0) for power in range(many)] for row in f]
    return [bounds_along([(number, number) for number in numbers], spot) for numbers in padded]


def bound_there(f, spot):
    """A power of two above the size of each root of an upright board above the spot."""
    # Asked first, for it narrows the spot until the last row's bounds are of one sign.
    sign_there(f[-1], spot)
    sizes = [(abs(least), abs(most)) for least, most in row_bounds(f, spot)]
    most = max([max(pair) for pair in sizes]) // min(sizes[-1]) + 2
    return 1 << most.bit_length()


def cut_there(f, low, high, spot):
    """A fraction between two others that is no root of a board above the spot."""
    cut = fraction(low[0] * high[1] + high[0] * low[1], 2 * low[1] * high[1])
    while sign_at_height(f, cut, spot) == 0:
        cut = fraction(low[0] * cut[1] + cut[0] * low[1], 2 * low[1] * cut[1])
    return cut


def pieces_by_chain(f, low, high, spot):
    chain = chain_there(f, spot)
    found = []
    waiting = [(low, high, changes_there(chain, low, spot), changes_there(chain, high, spot))]
    while waiting != []:
        low, high, first, last = waiting.pop()
        if first - last == 1:
            found.append((low, high))
        elif first - last > 1:
            cut = cut_there(f, low, high, spot)
            there = changes_there(chain, cut, spot)
            waiting.append((cut, high, there, last))
            waiting.append((low, cut, first, there))
    return found


def pieces_there(f, spot):
    """Ends (low, high) around each root of an upright board, not (), above the spot, rising; no end is a root."""
    if is_exact(spot):
        return pieces_between(bare_row(row_above(f, low_end(spot))), None, None)
    bound = bound_there(f, spot)
    return pieces_by_chain(f, (-bound, 1), (bound, 1), spot)


def count_there(f, low, high, spot):
    """How many unlike roots an upright board, not (), has between two fractions that are no roots, or None."""
    if is_exact(spot):
        return len(pieces_between(bare_row(row_above(f, low_end(spot))), low, high))
    chain = chain_there(f, spot)
    bound = bound_there(f, spot)
    low = (-bound, 1) if low is None else low
    high = (bound, 1) if high is None else high
    return changes_there(chain, low, spot) - changes_there(chain, high, spot)
