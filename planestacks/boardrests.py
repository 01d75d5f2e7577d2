"""Boards divided by one another as sums of powers of y, and the rows that all rows of a board share."""

from planestacks.boards import board_of
from planestacks.divisors import shared_row
from planestacks.rows import row_minus, row_plus, row_times, whole_quotient
from planestacks.wholes import common_divisor


def top_taken_off(rest, g):
    """The rest times g's last row, less g times the rest's last row and a power of y: the greatest power goes out."""
    shift = len(rest) - len(g)
    rows = [row_times(row, g[-1]) for row in rest[:-1]]
    for power in range(len(g) - 1):
        rows[shift + power] = row_minus(rows[shift + power], row_times(rest[-1], g[power]))
    return board_of(rows)


def divided_boards(f, g):
    """Boards and a number (q, r, many), r with lesser powers of y than g: q * g + r is f times g's last row to many."""
    quotient, rest, many = [()] * max(len(f) - len(g) + 1, 0), f, 0
    while len(rest) >= len(g):
        shift = len(rest) - len(g)
        quotient = [row_times(row, g[-1]) for row in quotient]
        quotient[shift] = row_plus(quotient[shift], rest[-1])
        rest = top_taken_off(rest, g)
        many += 1
    return (board_of(quotient), rest, many)


def row_shared_by_all(f):
    """The plain row of greatest degree that divides all rows of a board."""
    shared = ()
    for row in f:
        shared = shared_row(shared, row)
        if shared == (1,):
            return shared
    return shared


def number_shared_by_all(f):
    shared = 0
    for row in f:
        for number in row:
            shared = common_divisor(number, shared)
    return shared


def made_low(f):
    """The board divided by a plain row and a number above 0, as far as they divide all of it, and this row.

    Of () the row is () too.
    """
    shared = row_shared_by_all(f)
    rows = [whole_quotient(row, shared) for row in f]
    number = number_shared_by_all(rows)
    return (tuple([tuple([part // number for part in row]) for row in rows]), shared)
