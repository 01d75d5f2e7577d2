"""Walls, places and heights told once more, the same numbers in other forms than the program's own."""

from fractions import Fraction

from naive import number, pair, product
from planestacks.above import heights_of
from planestacks.boards import board_times
from planestacks.places import finer, place_between

PLUS = (1, 0, 1)


def other_places(place):
    """Other forms of a place."""
    if len(place) == 2:
        line = (-place[0], place[1])
        low, high = pair(number(place) - 1), pair(number(place) + Fraction(1, 3))
        return [(line, low, high), (product(line, line, PLUS), low, high), (product(line, (-3,)), low, high)]
    row, low, high = place
    return [(product(row, PLUS), low, high), (product(row, row), low, high), finer(place, (1, 1000)),
            (product(row, (-7,)), low, high)]


def other_heights(Y, low, high):
    """Other forms of a height, within two ends, numbers on either side of it."""
    if len(Y) == 2:
        line = ((-Y[0],) if Y[0] else (), (Y[1],))
        ends = (pair((number(Y) + low) / 2), pair((number(Y) + high) / 2))
        return [(line, *ends), (board_times(line, ((-5, 0, -1),)), *ends), (board_times(line, line), *ends)]
    board, low, high = Y
    return [(board_times(board, ((1, 0, 1),)), low, high), (board_times(board, board), low, high),
            (board_times(board, ((1,), (), (1,))), low, high), (board_times(board, ((-1,),)), low, high)]


def begin(Y):
    return number(Y if len(Y) == 2 else Y[1])


def end(Y):
    return number(Y if len(Y) == 2 else Y[2])


def other_heights_of(heights, at):
    """Each height in its form number at, kept apart as they were."""
    told = []
    for k, Y in enumerate(heights):
        low = end(heights[k - 1]) if k else begin(Y) - 1
        high = begin(heights[k + 1]) if k + 1 < len(heights) else end(Y) + 1
        forms = other_heights(Y, low, high)
        told.append(forms[at % len(forms)])
    return tuple(told)


def other_wall(wall, boards, at):
    """The wall with other fractions between its places, and each place and height in its form number at."""
    told = []
    for k, (X, heights) in enumerate(wall):
        if k % 2:
            forms = other_places(X)
            told.append((forms[at % len(forms)], other_heights_of(heights, at)))
        else:
            X = place_between(X, wall[k + 1][0] if k + 1 < len(wall) else None)
            told.append((X, other_heights_of(tuple(heights_of(boards, X)), at)))
    return tuple(told)
