"""Verdicts: whether sayings hold where the signs of their boards are known.

A cell is told as (X, Y, signs), a stack as the list of its cells from below, with the signs of a saying's boards in
their order.
"""

from planestacks.boards import turned
from planestacks.heights import sign_at_told
from planestacks.sayings import BINDERS, boards_of, folded, parts_of
from planestacks.wholes import sign_of


def boards_along(S, letter):
    """The boards of a saying as its wall along a letter has them."""
    boards = boards_of(S)
    return boards if letter == "x" else tuple([turned(board) for board in boards])


def joined(part, truths):
    if part[0] == "not":
        return not truths[0]
    return all(truths) if part[0] == "and" else any(truths)


def bound(word, truths):
    return any(truths) if word == "some" else all(truths)


def plain_holds(S, boards, signs):
    said = dict(zip(boards, signs))
    return folded(S, (), lambda part: said[part[1]] in part[2], joined)


def plain_at(S, height):
    """Whether a plain saying holds at a height above its spot."""
    boards = boards_of(S)
    return plain_holds(S, boards, [sign_at_told(board, height) for board in boards])


def part_holds(part, boards, stack):
    """Whether a part of a saying over a letter holds in a stack.

    The boards outside of some and all are without the other letter: they have one sign in all cells of a stack.
    """
    if part[0] == "is":
        return plain_holds(part, boards, stack[0][2])
    return bound(part[0], [plain_holds(part[2], boards, signs) for X, Y, signs in stack])


def truths_over(S, stacks):
    """Whether a saying over a letter holds, for each stack of its wall."""
    boards = boards_of(S)
    return [folded(S, BINDERS, lambda part: part_holds(part, boards, stack), joined) for stack in stacks]


def bound_parts(S):
    """The parts some and all of a saying that stand within none, from the left."""
    return [part for part in parts_of(S, BINDERS) if part[0] in BINDERS]


def bound_holds(part, stacks):
    """Whether a part some or all of a closed saying holds, by the stacks of its wall."""
    return bound(part[0], truths_over(part[2], stacks))


def number_holds(part):
    """Whether a part ("is", ..) holds whose board has no letter."""
    return (sign_of(part[1][0][0]) if part[1] != () else 0) in part[2]


def closed_holds(S, truths):
    """Whether a closed saying holds, where the truths of its bound parts are known, from the left."""
    rest = list(truths)
    return folded(S, BINDERS, lambda part: rest.pop() if part[0] in BINDERS else number_holds(part), joined)


def is_point(k, level):
    """Whether a cell is a point: it stands at a height above one of a wall's places between."""
    return k % 2 == 1 and level % 2 == 1


def met_in(stacks):
    """The cells (X, Y) of a wall's stacks in which all boards are 0: those that are points, and the others."""
    met = [(X, Y, is_point(k, level)) for k, stack in enumerate(stacks)
           for level, (X, Y, signs) in enumerate(stack) if not any(signs)]
    return ([(X, Y) for X, Y, alone in met if alone], [(X, Y) for X, Y, alone in met if not alone])
