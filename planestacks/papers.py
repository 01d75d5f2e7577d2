"""Papers: to each question the claim that is true, with what the checker needs to take it."""

from planestacks.copies import told_anew
from planestacks.questions import common_points, parted, where_said
from planestacks.roots import roots_of
from planestacks.sayings import said_anew
from planestacks.truth import region_of, settled


def paper_roots(f):
    return (("roots", told_anew(f), tuple(roots_of(f))), None)


def paper_settled(S):
    word, walls = settled(S)
    return ((word, said_anew(S)), walls)


def paper_where(S):
    answer = where_said(S)
    if answer[0] == "nowhere":
        return (("nowhere", said_anew(S)), answer[1])
    return (("holds", said_anew(S), answer[1], answer[2]), None)


def paper_parted(S, T):
    answer = parted(S, T)
    if answer[0] == "alike":
        return (("alike", said_anew(S), said_anew(T)), answer[1])
    return (("unlike", said_anew(S), said_anew(T), answer[1], answer[2]), None)


def paper_points(f, g):
    answer = common_points(f, g)
    if answer[0] == "endless":
        return (("endless", told_anew(f), told_anew(g)), answer[3])
    return (("points", told_anew(f), told_anew(g), tuple(answer[1])), answer[2])


def paper_region(S, letter):
    region, wall = region_of(S, letter)
    return (("region", said_anew(S), letter, region), wall)
