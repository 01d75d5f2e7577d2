"""Heights above a spot, as objects whose ends are narrowed as far as some answer needs it."""

from planestacks.boards import row_above
from planestacks.copies import told_anew
from planestacks.roots import fraction_between
from planestacks.rows import plain_row
from planestacks.spots import bounds_along, halve, halve_more, high_end, is_exact, low_end, sign_there
from planestacks.uprights import (
    bare_there, count_there, pieces_there, row_at_height, row_bounds, shared_there, sign_at_height, upright)
from planestacks.wholes import sign_of

FIRST_HALVINGS = 8


def changes_between(f, low, high, spot):
    return sign_at_height(f, low, spot) != sign_at_height(f, high, spot)


def line_between(above, ends, spot):
    """A board that changes its sign at the only root of an upright one between two ends, and nowhere else between."""
    return above if changes_between(above, ends[0], ends[1], spot) else bare_there(above, spot)


class Height:
    """The only root above a spot of a board between first and last, both over bottom; first where both are one.

    The board is the one by which it is told; above is an upright one with this root, and no other between.
    """

    def __init__(self, spot, board, above, ends):
        low, high = ends
        self.spot = spot
        self.board = board
        self.above = above
        self.line = above if low == high else line_between(above, ends, spot)
        self.first = low[0] * high[1]
        self.last = high[0] * low[1]
        self.bottom = low[1] * high[1]
        self.begins = sign_at_height(self.line, low, spot)
        self.halvings = 0

    def sign_of_cut(self, cut):
        return sign_at_height(self.line, cut, self.spot)


def height_of(told, spot):
    """The object of a height that is told."""
    if len(told) == 2:
        return Height(spot, (), (), (told, told))
    board, low, high = told
    return Height(spot, board, upright(board, spot), (low, high))


def told_height(height):
    if is_exact(height):
        return low_end(height)
    return (told_anew(height.board), low_end(height), high_end(height))


def ends_as_fraction(row, ends):
    """The ends of a root of a plain bare row; where it is a fraction, this twice."""
    root = fraction_between(row, ends[0], ends[1])
    return ends if root is None else (root, root)


def heights_of_one(board, spot):
    """The heights of one board above a spot, rising; none where it is nought there."""
    above = upright(board, spot)
    if len(above) < 2:
        return []
    if is_exact(spot):
        above = bare_there(above, spot)
    pieces = pieces_there(above, spot)
    if is_exact(spot):
        row = plain_row(row_above(above, low_end(spot)))
        pieces = [ends_as_fraction(row, ends) for ends in pieces]
    return [Height(spot, board, above, ends) for ends in pieces]


def is_apart(a, b):
    """Whether b begins where a ends or above; above where one of them is a fraction."""
    end, begin = a.last * b.bottom, b.first * a.bottom
    return end < begin or (end == begin and not is_exact(a) and not is_exact(b))


def has_root_between(f, low, high, spot):
    """Whether an upright board has a root between two fractions that are none, where it has no two unlike ones.

    A root that it has an even number of times doesn't change its sign.
    """
    return changes_between(f, low, high, spot) or (len(f) > 2 and count_there(f, low, high, spot) == 1)


def is_same(a, b):
    """Whether two heights that aren't apart are one number."""
    if is_exact(a):
        return sign_at_height(b.line, low_end(a), a.spot) == 0
    if is_exact(b):
        return is_same(b, a)
    # What both share has no root where either begins or ends.
    low = low_end(b) if a.first * b.bottom < b.first * a.bottom else low_end(a)
    high = high_end(a) if a.last * b.bottom < b.last * a.bottom else high_end(b)
    return has_root_between(shared_there(a.above, b.above, a.spot), low, high, a.spot)


def keep_apart(a, b):
    """Narrows two heights that are unlike numbers until they are apart."""
    while not is_apart(a, b) and not is_apart(b, a):
        halve(a, 1)
        halve(b, 1)


def order_of_heights(a, b):
    """Tried first by narrowing somewhat, for most are unlike, and it costs less than what both boards share."""
    for k in range(FIRST_HALVINGS):
        if not is_apart(a, b) and not is_apart(b, a):
            halve(a, 1)
            halve(b, 1)
    if not is_apart(a, b) and not is_apart(b, a):
        if is_same(a, b):
            return 0
        keep_apart(a, b)
    return -1 if is_apart(a, b) else 1


def merged(heights, others):
    """Two rising lists as one; a number that stands in both is taken from the first.

    Neighbours of one list are apart; two of both that come to be neighbours were put in order, and so are apart, too.
    """
    both, k = [], 0
    for other in others:
        order = -1
        while k < len(heights) and order == -1:
            order = order_of_heights(heights[k], other)
            if order == -1:
                both.append(heights[k])
                k += 1
        if order != 0:
            both.append(other)
    return both + heights[k:]


def heights_there(boards, spot):
    """The heights of some boards above a spot, rising, each once, kept apart."""
    heights = []
    for board in boards:
        heights = merged(heights, heights_of_one(board, spot))
    return heights


def bounds_at(f, height):
    """Two numbers between which a board's value lies at a spot and a height above it, times a number above 0."""
    return bounds_along(row_bounds(f, height.spot), height)


def is_nought_at(f, height):
    """Whether a board is 0 at a height that isn't known as a fraction."""
    shared = shared_there(height.above, upright(f, height.spot), height.spot)
    return has_root_between(shared, low_end(height), high_end(height), height.spot)


def halve_wider(height):
    """Halves the ends of a height, and those of its spot where they are wider apart."""
    spot = height.spot
    if (spot.last - spot.first) * height.bottom > (height.last - height.first) * spot.bottom:
        halve_more(spot)
    halve_more(height)


def sign_at_told(f, height):
    """The sign of a board at a height."""
    if f == height.board:
        return 0
    tried = False
    while not is_exact(height):
        least, most = bounds_at(f, height)
        if least > 0 or most < 0:
            return sign_of(least + most)
        if height.halvings > 0 and not tried:
            if is_nought_at(f, height):
                return 0
            tried = True
        halve_wider(height)
    return sign_there(row_at_height(f, low_end(height)), height.spot)
