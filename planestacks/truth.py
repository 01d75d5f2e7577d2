"""What holds: plain sayings at a spot, closed ones, and the regions of those over a letter."""

from planestacks.above import height_above, spot_of
from planestacks.copies import told_anew
from planestacks.errors import NoKind
from planestacks.lineparts import held_parts
from planestacks.sayings import is_closed, is_over, is_plain
from planestacks.verdicts import boards_along, bound_holds, bound_parts, closed_holds, plain_at, truths_over
from planestacks.walls import wall_with_stacks


def refuse_not_plain(S):
    if not is_plain(S):
        raise NoKind("this saying is not plain")


def true_at(S, X, Y):
    refuse_not_plain(S)
    return plain_at(S, height_above(Y, spot_of(X)))


def settled(S):
    if not is_closed(S):
        raise NoKind("this saying is not closed")
    walls, truths = [], []
    for part in bound_parts(S):
        wall, stacks = wall_with_stacks(boards_along(part[2], part[1]))
        truths.append(bound_holds(part, stacks))
        walls.append(wall)
    return ("true" if closed_holds(S, truths) else "false", tuple(walls))


def region_of(S, letter):
    if not is_over(S, letter):
        raise NoKind("this saying is not over this letter")
    wall, stacks = wall_with_stacks(boards_along(S, letter))
    parts = held_parts([X for X, heights in wall], truths_over(S, stacks))
    return (told_anew(tuple(parts)), wall)
