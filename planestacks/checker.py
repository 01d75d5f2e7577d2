"""The checker: takes a claim with its paper, or not, whoever wrote them."""

from planestacks.above import is_height_above
from planestacks.boards import is_board
from planestacks.checkedwalls import are_all_roots, are_rising, stacks_taken
from planestacks.heights import height_of, order_of_heights
from planestacks.lineparts import held_parts, order_told, same_part
from planestacks.places import is_place
from planestacks.rows import is_row
from planestacks.sayings import boards_of, is_closed, is_letter, is_over, is_plain, is_saying
from planestacks.spots import Spot
from planestacks.verdicts import (
    boards_along, bound_holds, bound_parts, closed_holds, met_in, plain_at, plain_holds, truths_over)


def is_plain_saying(thing):
    return is_saying(thing) and is_plain(thing)


def takes_roots(claim, paper):
    word, row, places = claim
    if paper is not None or not is_row(row) or row == ():
        return False
    if not isinstance(places, tuple) or not all([is_place(place) for place in places]):
        return False
    return are_rising(places) and are_all_roots([row], places)


def truths_taken(parts, walls):
    """Whether the bound parts of a closed saying hold, by their walls; None where one is none of the part's."""
    truths = []
    for part, wall in zip(parts, walls):
        stacks = stacks_taken(boards_along(part[2], part[1]), wall)
        if stacks is None:
            return None
        truths.append(bound_holds(part, stacks))
    return truths


def takes_settled(claim, paper):
    word, S = claim
    if not is_saying(S) or not is_closed(S) or not isinstance(paper, tuple):
        return False
    parts = bound_parts(S)
    if len(paper) != len(parts):
        return False
    truths = truths_taken(parts, paper)
    return truths is not None and closed_holds(S, truths) == (word == "true")


def height_told(X, Y):
    """The object of a height above a place, where things of any kind are such; else None."""
    if not is_place(X):
        return None
    spot = Spot(X, {})
    return height_of(Y, spot) if is_height_above(Y, spot) else None


def takes_holds(claim, paper):
    word, S, X, Y = claim
    if paper is not None or not is_plain_saying(S):
        return False
    height = height_told(X, Y)
    return height is not None and plain_at(S, height)


def takes_unlike(claim, paper):
    word, S, T, X, Y = claim
    if paper is not None or not is_plain_saying(S) or not is_plain_saying(T):
        return False
    height = height_told(X, Y)
    return height is not None and plain_at(S, height) != plain_at(T, height)


def signs_taken(boards, wall):
    """The signs of some boards in all cells of a wall of theirs; None where it is no such wall."""
    stacks = stacks_taken(boards, wall)
    return None if stacks is None else [signs for stack in stacks for X, Y, signs in stack]


def takes_nowhere(claim, paper):
    word, S = claim
    if not is_plain_saying(S):
        return False
    boards = boards_of(S)
    cells = signs_taken(boards, paper)
    return cells is not None and not any([plain_holds(S, boards, signs) for signs in cells])


def takes_alike(claim, paper):
    word, S, T = claim
    if not is_plain_saying(S) or not is_plain_saying(T):
        return False
    boards = boards_of(("and", S, T))
    cells = signs_taken(boards, paper)
    return cells is not None and all([plain_holds(S, boards, signs) == plain_holds(T, boards, signs)
                                      for signs in cells])


def met_taken(f, g, wall):
    """The cells in which two things are both 0, by a wall (see met_in); None where they or it are none."""
    if not is_board(f) or not is_board(g):
        return None
    stacks = stacks_taken((f,) if f == g else (f, g), wall)
    return None if stacks is None else met_in(stacks)


def is_spot(thing, X, Y):
    """Whether a thing of any kind is a tuple of a place and a height above it, these two numbers."""
    if not isinstance(thing, tuple) or len(thing) != 2 or not is_place(thing[0]) or order_told(thing[0], X) != 0:
        return False
    spot = Spot(X, {})
    return is_height_above(thing[1], spot) and order_of_heights(height_of(thing[1], spot), height_of(Y, spot)) == 0


def takes_points(claim, paper):
    word, f, g, spots = claim
    met = met_taken(f, g, paper)
    if met is None or not isinstance(spots, tuple):
        return False
    points, others = met
    return (others == [] and len(spots) == len(points)
            and all([is_spot(spot, X, Y) for spot, (X, Y) in zip(spots, points)]))


def takes_endless(claim, paper):
    word, f, g = claim
    met = met_taken(f, g, paper)
    return met is not None and met[1] != []


def is_end(place, belongs):
    return isinstance(belongs, bool) and (place is None or is_place(place))


def is_part(thing):
    """Whether a thing of any kind is written as a part of a region; perhaps there is no number between its ends."""
    return isinstance(thing, tuple) and len(thing) == 4 and is_end(thing[0], thing[1]) and is_end(thing[2], thing[3])


def takes_region(claim, paper):
    """A region has its parts in one way only; so those that the wall tells are the only ones that are taken."""
    word, S, letter, region = claim
    if not is_saying(S) or not is_letter(letter) or not is_over(S, letter):
        return False
    if not isinstance(region, tuple) or not all([is_part(part) for part in region]):
        return False
    stacks = stacks_taken(boards_along(S, letter), paper)
    if stacks is None:
        return False
    parts = held_parts([X for X, heights in paper], truths_over(S, stacks))
    return len(region) == len(parts) and all([same_part(one, other) for one, other in zip(region, parts)])


# How many parts a claim of each word has, this word counted.
PARTS = {
    "roots": 3, "true": 2, "false": 2, "holds": 4, "nowhere": 2, "alike": 3, "points": 4, "endless": 3, "unlike": 5,
    "region": 4}
CHECKS = {
    "roots": takes_roots, "true": takes_settled, "false": takes_settled, "holds": takes_holds,
    "nowhere": takes_nowhere, "alike": takes_alike, "points": takes_points, "endless": takes_endless,
    "unlike": takes_unlike, "region": takes_region}


def is_claim(thing):
    """Whether a thing of any kind is a tuple of a word and as many parts as go with it."""
    if not isinstance(thing, tuple) or len(thing) == 0 or not isinstance(thing[0], str):
        return False
    return thing[0] in PARTS and len(thing) == PARTS[thing[0]]


def holds(claim, paper):
    if not is_claim(claim):
        return False
    takes = CHECKS[claim[0]]
    return takes(claim, paper)
