"""Ties of two boards, and the base rows of some, whose roots are where the stacks change."""

from planestacks.boards import slope_up
from planestacks.divisors import bare_row
from planestacks.rows import row_of


def shifted_line(f, at, many):
    """A line of the table: f's rows from that of the greatest power on, at places further right."""
    line = [()] * at + [row for row in reversed(f)] + [()] * many
    return line[:many]


def table_of(f, g, k):
    up, down = len(f) - 1 - k, len(g) - 1 - k
    return [shifted_line(f, at, up + down) for at in range(down)] + [shifted_line(g, at, up + down) for at in range(up)]


def bits_for(table):
    """So many bits that each number of each determinant within the table has room for itself and its sign."""
    bound = 1
    for line in table:
        bound *= max(1, sum([abs(number) for row in line for number in row]))
    return bound.bit_length() + 1


def packed(row, bits):
    """The row's value at the power of two with so many noughts."""
    value = 0
    for number in reversed(row):
        value = (value << bits) + number
    return value


def unpacked(value, bits):
    """The row whose value it is there, its numbers being less than half that power in size."""
    numbers = []
    while value != 0:
        number = value & ((1 << bits) - 1)
        if number >> (bits - 1):
            number -= 1 << bits
        numbers.append(number)
        value = (value - number) >> bits
    return row_of(numbers)


def line_with_pivot(table, at):
    """The number of the first line from at on that isn't 0 in this column; None where there is none."""
    for k in range(at, len(table)):
        if table[k][at] != 0:
            return k
    return None


def cleared_below(table, at, before):
    """The lines below made 0 in the column at: each number of them is a determinant within the first table."""
    top = table[at]
    for k in range(at + 1, len(table)):
        line = table[k]
        table[k] = [(top[at] * line[j] - line[at] * top[j]) // before for j in range(len(line))]


def determinant(numbers):
    """The determinant of a table of whole numbers, by lines taken off one another; each division comes out even."""
    table = list(numbers)
    sign, before = 1, 1
    for at in range(len(table)):
        found = line_with_pivot(table, at)
        if found is None:
            return 0
        if found != at:
            table[at], table[found] = table[found], table[at]
            sign = -sign
        cleared_below(table, at, before)
        before = table[at][at]
    return sign * before


def tie_of(f, g, k):
    """Reckoned with whole numbers: each row is packed into one, and so is the determinant."""
    table = table_of(f, g, k)
    bits = bits_for(table)
    return unpacked(determinant([[packed(row, bits) for row in line] for line in table]), bits)


def first_tie(f, g):
    """The first tie that isn't (); the last one is always such."""
    k = 0
    tie = tie_of(f, g, k)
    while tie == ():
        k += 1
        tie = tie_of(f, g, k)
    return tie


def rows_of_one(f):
    """What one board brings to the base rows, as it is reckoned; 0 brings nothing."""
    if len(f) <= 2:
        return [f[-1]] if f != () else []
    return [f[-1], first_tie(f, slope_up(f))]


def base_rows(boards):
    rows = [row for f in boards for row in rows_of_one(f)]
    with_y = [f for f in boards if len(f) > 1]
    for k in range(len(with_y)):
        rows.extend([first_tie(with_y[j], with_y[k]) for j in range(k)])
    bare = [bare_row(row) for row in rows]
    return sorted({row for row in bare if len(row) > 1})
