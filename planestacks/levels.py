"""Levels: what lies over one another in a stack, told by its heights."""

from planestacks.fractions import below
from planestacks.places import whole_above, whole_below
from planestacks.spans import middle_between


def begin_of(height):
    return height if len(height) == 2 else height[1]


def end_of(height):
    return height if len(height) == 2 else height[2]


def are_apart(one, other):
    """Whether the second of two told heights begins where the first ends or above; above where one is a fraction."""
    end, begin = end_of(one), begin_of(other)
    return below(end, begin) or (end == begin and len(one) == 3 and len(other) == 3)


def gap_between(one, other):
    """A fraction between two told heights that are kept apart."""
    end, begin = end_of(one), begin_of(other)
    return end if end == begin else middle_between(end, begin)


def levels_of(heights):
    """What lies over one another in a stack: fractions and the told heights in turns, from below."""
    if len(heights) == 0:
        return [(0, 1)]
    levels = [whole_below(heights[0]), heights[0]]
    for k in range(1, len(heights)):
        levels.append(gap_between(heights[k - 1], heights[k]))
        levels.append(heights[k])
    return levels + [whole_above(heights[-1])]
