"""Boards: tuples of rows in x, one for each power of y, the last not ()."""

from planestacks.fractions import plus, times
from planestacks.rows import (
    is_row, other_sign, part_at, put_low, row_of, row_plus, row_times, row_value, scaled_value, without_end)


def is_board(thing):
    """Whether a thing of any kind is a board."""
    if not isinstance(thing, tuple) or not all([is_row(row) for row in thing]):
        return False
    return thing == () or thing[-1] != ()


def board_of(rows):
    """The board with the rows of this list."""
    return without_end(rows, ())


def board_plus(f, g):
    many = max(len(f), len(g))
    return board_of([row_plus(part_at(f, power, ()), part_at(g, power, ())) for power in range(many)])


def board_minus(f, g):
    return board_plus(f, tuple([other_sign(row) for row in g]))


def board_times(f, g):
    if f == () or g == ():
        return ()
    rows = [()] * (len(f) + len(g) - 1)
    for j, one in enumerate(f):
        for k, other in enumerate(g):
            rows[j + k] = row_plus(rows[j + k], row_times(one, other))
    return board_of(rows)


def slope_up(f):
    """The slope by y."""
    return tuple([row_times((power,), f[power]) for power in range(1, len(f))])


def length_of_rows(f):
    return max([len(row) for row in f], default=0)


def letter_stands(letter, f):
    """Whether a board has a power of the letter that isn't 0."""
    return (len(f) if letter == "y" else length_of_rows(f)) > 1


def turned(f):
    return tuple([row_of([part_at(row, power, 0) for row in f]) for power in range(length_of_rows(f))])


def board_value(f, x, y):
    value = (0, 1)
    for row in reversed(f):
        value = plus(times(value, y), row_value(row, x))
    return value


def row_above(f, x):
    """All rows are reckoned to one power of the bottom of x: a common factor above 0 that goes out again."""
    many = length_of_rows(f)
    padded = [[part_at(row, power, 0) for power in range(many)] for row in f]
    return put_low(row_of([scaled_value(numbers, x) for numbers in padded]))
