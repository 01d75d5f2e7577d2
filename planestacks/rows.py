"""Rows: tuples of whole numbers, one for each power of one unknown, the last not 0."""

from planestacks.fractions import fraction
from planestacks.wholes import common_divisor, is_whole, sign_of


def is_row(thing):
    """Whether a thing of any kind is a row."""
    if not isinstance(thing, tuple) or not all([is_whole(number) for number in thing]):
        return False
    return thing == () or thing[-1] != 0


def without_end(parts, nought):
    """The parts as a tuple, less those at the end that are nought."""
    many = len(parts)
    while many > 0 and parts[many - 1] == nought:
        many -= 1
    return tuple(parts[:many])


def part_at(parts, power, nought):
    return parts[power] if power < len(parts) else nought


def row_of(numbers):
    """The row with the numbers of this list."""
    return without_end(numbers, 0)


def row_plus(f, g):
    many = max(len(f), len(g))
    return row_of([part_at(f, power, 0) + part_at(g, power, 0) for power in range(many)])


def row_minus(f, g):
    return row_plus(f, other_sign(g))


def other_sign(f):
    return tuple([-number for number in f])


def row_times(f, g):
    if f == () or g == ():
        return ()
    numbers = [0] * (len(f) + len(g) - 1)
    for j, one in enumerate(f):
        for k, other in enumerate(g):
            numbers[j + k] += one * other
    return row_of(numbers)


def slope(f):
    return tuple([power * f[power] for power in range(1, len(f))])


def put_low(f):
    """The row divided by what its numbers share, its sign kept."""
    shared = 0
    for number in f:
        shared = common_divisor(number, shared)
    return tuple([number // shared for number in f])


def plain_row(f):
    low = put_low(f)
    return other_sign(low) if low != () and low[-1] < 0 else low


def whole_quotient(f, g):
    """The row q of whole numbers with q * g = f, g not (); None where there is none."""
    rest, numbers = list(f), []
    while len(rest) >= len(g):
        number, left = divmod(rest.pop(), g[-1])
        if left != 0:
            return None
        numbers.append(number)
        start = len(rest) - len(g) + 1
        for k in range(len(g) - 1):
            rest[start + k] -= number * g[k]
    return row_of(numbers[::-1]) if not any(rest) else None


def scaled_value(numbers, at):
    """The value of these numbers' row at a fraction, times its bottom to the power of their count less 1.

    It is whole and has the value's sign, so that no terms need be made lowest on the way.
    """
    top, bottom = at
    value, scale = 0, 1
    for number in reversed(numbers):
        value = value * top + number * scale
        scale *= bottom
    return value


def power_of(number, many):
    """The number times itself, many times."""
    product = 1
    for k in range(many):
        product *= number
    return product


def row_value(f, at):
    if f == ():
        return (0, 1)
    return fraction(scaled_value(f, at), power_of(at[1], len(f) - 1))


def sign_of_value(f, at):
    return sign_of(scaled_value(f, at))
