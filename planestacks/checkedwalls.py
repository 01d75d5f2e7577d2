"""Walls and roots that anybody told: taken only where they are all that they must be."""

from planestacks.above import is_height_above
from planestacks.chains import count_between
from planestacks.fractions import is_fraction
from planestacks.heights import height_of, sign_at_told
from planestacks.levels import are_apart, levels_of
from planestacks.lineparts import order_told
from planestacks.places import is_place
from planestacks.spots import Spot, sign_there
from planestacks.ties import base_rows
from planestacks.uprights import count_there, upright


def are_rising(places):
    return all([order_told(places[k - 1], places[k]) == -1 for k in range(1, len(places))])


def are_all_noughts(counts, noughts):
    """Whether unlike numbers are all the roots of some rows or boards, and nothing else.

    Told is how many roots each one has, and for each number which of them are 0 there.
    """
    found = [len([at for at in noughts if at[k]]) for k in range(len(counts))]
    return found == counts and all([any(at) for at in noughts])


def are_all_roots(rows, places):
    """Whether rising places are the roots of some rows, none of them ()."""
    counts = [count_between(row, None, None) for row in rows]
    spots = [Spot(place, {}) for place in places]
    return are_all_noughts(counts, [[sign_there(row, spot) == 0 for row in rows] for spot in spots])


def is_stack(thing):
    return isinstance(thing, tuple) and len(thing) == 2 and isinstance(thing[1], tuple)


def has_form(wall):
    """Whether it is an odd number of stacks, above a fraction and a place in turns."""
    if not isinstance(wall, tuple) or len(wall) % 2 == 0 or not all([is_stack(stack) for stack in wall]):
        return False
    return all([is_fraction(X) for X, heights in wall[::2]]) and all([is_place(X) for X, heights in wall[1::2]])


def has_its_places(boards, wall):
    places = [X for X, heights in wall]
    return are_rising(places) and are_all_roots(base_rows(boards), places[1::2])


def are_heights(heights, spot):
    return (all([is_height_above(Y, spot) for Y in heights])
            and all([are_apart(heights[k - 1], heights[k]) for k in range(1, len(heights))]))


def has_its_heights(boards, signs, spot):
    """Whether the heights at which the boards have these signs are all there are above the spot.

    A board that is nought there has none, though it is 0 at each.
    """
    above = [upright(board, spot) for board in boards]
    full = [k for k in range(len(boards)) if above[k] != ()]
    counts = [count_there(above[k], None, None, spot) for k in full]
    return are_all_noughts(counts, [[at[k] == 0 for k in full] for at in signs])


def stack_taken(boards, stack, known):
    """The cells of a stack from below, as (X, Y, signs); None where its heights aren't those of the boards."""
    X, heights = stack
    spot = Spot(X, known)
    if not are_heights(heights, spot):
        return None
    cells = []
    for Y in levels_of(heights):
        height = height_of(Y, spot)
        cells.append((X, Y, tuple([sign_at_told(board, height) for board in boards])))
    return cells if has_its_heights(boards, [signs for X, Y, signs in cells[1::2]], spot) else None


def stacks_taken(boards, wall):
    """The cells of a wall of these boards, a list for each stack; None where it is no such wall."""
    if not has_form(wall) or not has_its_places(boards, wall):
        return None
    known, stacks = {}, []
    for stack in wall:
        cells = stack_taken(boards, stack, known)
        if cells is None:
            return None
        stacks.append(cells)
    return stacks
