"""Questions: where plain sayings hold, where two of them part, and where two boards are both 0."""

from planestacks.sayings import boards_of
from planestacks.truth import refuse_not_plain
from planestacks.verdicts import met_in, plain_holds
from planestacks.walls import cells_of_stack, wall_by, wall_with_stacks


def first_spot(boards, fits):
    """The first cell (X, Y) with fitting signs of the wall of some boards, None where there is none; and the wall."""
    known = {}
    wall = wall_by(boards, known)
    for stack in wall:
        for X, Y, signs in cells_of_stack(boards, stack, known):
            if fits(signs):
                return ((X, Y), wall)
    return (None, wall)


def where_said(S):
    refuse_not_plain(S)
    boards = boards_of(S)
    spot, wall = first_spot(boards, lambda signs: plain_holds(S, boards, signs))
    return ("nowhere", wall) if spot is None else ("somewhere", spot[0], spot[1])


def parted(S, T):
    refuse_not_plain(S)
    refuse_not_plain(T)
    boards = boards_of(("and", S, T))
    spot, wall = first_spot(boards, lambda signs: plain_holds(S, boards, signs) != plain_holds(T, boards, signs))
    return ("alike", wall) if spot is None else ("unlike", spot[0], spot[1])


def common_points(f, g):
    wall, stacks = wall_with_stacks((f,) if f == g else (f, g))
    points, others = met_in(stacks)
    return ("points", points, wall) if others == [] else ("endless", others[0][0], others[0][1], wall)
