"""Walls: the stacks of the heights of some boards above all places that matter, and their cells."""

from planestacks.copies import told_anew
from planestacks.divisors import shared_row
from planestacks.fractions import below
from planestacks.heights import height_of, heights_there, sign_at_told, told_height
from planestacks.levels import levels_of
from planestacks.places import whole_above, whole_below
from planestacks.roots import roots_of
from planestacks.rows import whole_quotient
from planestacks.spans import kept_apart, middle_between
from planestacks.spots import Spot
from planestacks.ties import base_rows


def without_shared(rows):
    """Plain bare rows with the same roots in all, no two of which share one."""
    fresh = []
    for row in rows:
        for other in fresh:
            row = whole_quotient(row, shared_row(row, other))
        fresh.append(row)
    return fresh


def span_of_root(root):
    """The span of a root as it is told by roots_of, whose row is bare."""
    return ((-root[0], root[1]), root, root) if len(root) == 2 else root


def place_of_span(span):
    row, low, high = span
    return low if low == high else (told_anew(row), low, high)


def merged_spans(spans, others):
    """Two rising lists of spans of unlike numbers as one, each two that were looked at kept apart."""
    both, spans, others = [], spans[::-1], others[::-1]
    while spans != [] and others != []:
        one, other = kept_apart(spans.pop(), others.pop())
        spans.append(one)
        others.append(other)
        both.append(spans.pop() if below(one[2], other[1]) else others.pop())
    return both + spans[::-1] + others[::-1]


def spans_of_rows(rows):
    """Spans of all roots of some plain bare rows, rising, each once, with room between each two."""
    spans = []
    for row in without_shared(rows):
        spans = merged_spans(spans, [span_of_root(root) for root in roots_of(row)])
    for k in range(1, len(spans)):
        spans[k - 1], spans[k] = kept_apart(spans[k - 1], spans[k])
    return spans


def places_of_wall(boards):
    """In turns a fraction and a root of the base rows, rising."""
    spans = spans_of_rows(base_rows(boards))
    if spans == []:
        return [(0, 1)]
    roots = [place_of_span(span) for span in spans]
    places = [whole_below(roots[0]), roots[0]]
    for k in range(1, len(spans)):
        places.append(middle_between(spans[k - 1][2], spans[k][1]))
        places.append(roots[k])
    return places + [whole_above(roots[-1])]


def wall_by(boards, known):
    """The wall of some boards; what comes to be known of these on the way is kept for who asks on."""
    stacks = []
    for X in places_of_wall(boards):
        heights = heights_there(boards, Spot(X, known))
        stacks.append((X, tuple([told_height(height) for height in heights])))
    return tuple(stacks)


def cells_of_stack(boards, stack, known):
    X, heights = stack
    spot = Spot(X, known)
    cells = []
    for Y in levels_of(heights):
        height = height_of(Y, spot)
        signs = tuple([sign_at_told(board, height) for board in boards])
        cells.append((told_anew(X), told_anew(Y), signs))
    return cells


def stacks_of(boards, wall, known):
    """The cells of a wall, a list for each stack."""
    return [cells_of_stack(boards, stack, known) for stack in wall]


def wall_with_stacks(boards):
    known = {}
    wall = wall_by(boards, known)
    return (wall, stacks_of(boards, wall, known))


def wall_of(boards):
    return wall_by(boards, {})


def cells_of(boards, wall):
    return [cell for cells in stacks_of(boards, wall, {}) for cell in cells]
