"""The roots of a bare row between two ends, by cutting until each piece has one or none.

A piece is seen as the row q whose roots between 0 and 1 are those of the first row within the piece. Turned about and
shifted by 1 it has no changes of sign only where there is no root, and one change only where there is just one; near
enough to a root that is taken once there is one change, so that the cutting ends.
"""

from planestacks.fractions import minus, plus, times


def shifted_by_one(numbers):
    """The numbers of the row at the unknown plus 1."""
    shifted = list(numbers)
    for start in range(len(shifted) - 1):
        for k in range(len(shifted) - 2, start - 1, -1):
            shifted[k] += shifted[k + 1]
    return shifted


def changes_within(q):
    """At least as many as the roots between 0 and 1; just as many where it is 0 or 1."""
    signs = [number > 0 for number in shifted_by_one(q[::-1]) if number != 0]
    return len([k for k in range(1, len(signs)) if signs[k - 1] != signs[k]])


def moved_between(h, low, high):
    """The numbers of the row h with low put at 0 and high at 1, times a number above 0."""
    bottom = low[1] * high[1]
    start, wide = low[0] * high[1], high[0] * low[1] - low[0] * high[1]
    moved, scale = [h[-1]], 1
    for power in range(len(h) - 2, -1, -1):
        scale *= bottom
        moved = [start * one + wide * other for one, other in zip(moved + [0], [0] + moved)]
        moved[0] += h[power] * scale
    return moved


def cut_piece(q):
    """The two pieces left and right of a cut that is no root, and the part of the way at which it lies.

    This is a half, or the first of a quarter, an eighth .. that is no root.
    """
    many, halvings = len(q) - 1, 1
    left = [number << (many - power) for power, number in enumerate(q)]
    while sum(left) == 0:
        halvings += 1
        left = [number << (many - power) for power, number in enumerate(left)]
    right, stretch = shifted_by_one(left), 1
    for power in range(many + 1):
        right[power] *= stretch
        stretch *= (1 << halvings) - 1
    return (left, right, (1, 1 << halvings))


def root_bound(h):
    """A whole number above the size of each root.

    No root is greater than twice the greatest of these: for each other number of h the size of its quotient by the
    last one, the root taken of it that goes with the distance of both. Here each is a power of two above it.
    """
    power, most = len(h) - 1, 0
    for k in range(power):
        bits = abs(h[k]).bit_length() - abs(h[-1]).bit_length() + 1
        most = max(most, -(-bits // (power - k)))
    return 2 << most


def end_beyond(h, other):
    """A whole number above the size of each root and above that of the other end, if there is one."""
    return root_bound(h) + (0 if other is None else abs(other[0]) // other[1] + 1)


def pieces_between(h, low, high):
    """Ends (low, high) around each root of a bare row between two fractions that are no roots, or None, rising.

    No end is a root; of two neighbours the second may begin where the first ends.
    """
    start = (-end_beyond(h, high), 1) if low is None else low
    end = (end_beyond(h, low), 1) if high is None else high
    found, waiting = [], [(moved_between(h, start, end), start, end)]
    while waiting != []:
        q, start, end = waiting.pop()
        changes = changes_within(q)
        if changes == 1:
            found.append((start, end))
        elif changes > 1:
            left, right, part = cut_piece(q)
            cut = plus(start, times(minus(end, start), part))
            waiting.append((right, cut, end))
            waiting.append((left, start, cut))
    return found
