"""Sayings: tuples about two numbers, what they are put together of, and of which kinds they are.

None of these functions calls itself: sayings may stand deep within one another.
"""

from planestacks.boards import is_board, letter_stands
from planestacks.copies import told_anew
from planestacks.wholes import is_whole

SIGNS_SAID = ((-1,), (0,), (1,), (-1, 0), (0, 1), (-1, 1))
LETTERS = ("x", "y")
BINDERS = ("some", "all")


def is_letter(thing):
    return isinstance(thing, str) and thing in LETTERS


def are_signs(thing):
    """Whether it is one of the tuples of signs; no truth stands for a number."""
    return isinstance(thing, tuple) and all([is_whole(sign) for sign in thing]) and thing in SIGNS_SAID


def is_head(thing):
    """Whether a thing of any kind is a saying, but for the sayings that stand in it."""
    if not isinstance(thing, tuple) or len(thing) not in (2, 3) or not isinstance(thing[0], str):
        return False
    if thing[0] == "not":
        return len(thing) == 2
    if len(thing) == 2:
        return False
    if thing[0] == "is":
        return is_board(thing[1]) and are_signs(thing[2])
    if thing[0] in BINDERS:
        return is_letter(thing[1])
    return thing[0] in ("and", "or")


def sayings_in(S):
    """The sayings that a saying is put together of, from the left."""
    if S[0] == "is":
        return []
    if S[0] in BINDERS:
        return [S[2]]
    return list(S[1:])


def is_saying(thing):
    waiting = [thing]
    while len(waiting) > 0:
        part = waiting.pop()
        if not is_head(part):
            return False
        waiting.extend(sayings_in(part))
    return True


def parts_of(S, stops):
    """The parts of a saying from the left, itself the first; none of what stands within one of the words of stops."""
    parts, waiting = [], [S]
    while waiting != []:
        part = waiting.pop()
        parts.append(part)
        if part[0] not in stops:
            waiting.extend(sayings_in(part)[::-1])
    return parts


def folded(S, stops, leaf, put):
    """A saying taken together from within: leaf tells what its parts ("is", ..) and those of the words of stops come
    to, asked from the right; put tells it of another part by what the sayings in it came to, a list from the left.
    """
    done = []
    for part in reversed(parts_of(S, stops)):
        if part[0] == "is" or part[0] in stops:
            done.append(leaf(part))
        else:
            done.append(put(part, [done.pop() for inner in sayings_in(part)]))
    return done.pop()


def said_anew(S):
    """The same saying in new tuples."""
    return folded(S, (), told_anew, lambda part, inner: part[:-len(inner)] + tuple(inner))


def boards_of(S):
    boards = []
    for part in parts_of(S, ()):
        if part[0] == "is" and part[1] not in boards:
            boards.append(told_anew(part[1]))
    return tuple(boards)


def is_plain(S):
    return not any([part[0] in BINDERS for part in parts_of(S, ())])


def fits_over(part, other):
    """Whether a part that stands within no some and no all may stand in a saying over the letter that isn't other."""
    if part[0] == "is":
        return not letter_stands(other, part[1])
    return part[0] not in BINDERS or (part[1] == other and is_plain(part[2]))


def is_over(S, letter):
    other = "y" if letter == "x" else "x"
    return all([fits_over(part, other) for part in parts_of(S, BINDERS)])


def fits_closed(part):
    if part[0] == "is":
        return not letter_stands("x", part[1]) and not letter_stands("y", part[1])
    return part[0] not in BINDERS or is_over(part[2], part[1])


def is_closed(S):
    return all([fits_closed(part) for part in parts_of(S, BINDERS)])
