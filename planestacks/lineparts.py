"""Parts (low, low_in, high, high_in) of the line: how their ends stand, and which are told by the stacks of a wall."""

from planestacks.spans import order_of_spans, span_of


def order_told(one, other):
    """The order of two places, of which it isn't asked whether they are some."""
    return order_of_spans(span_of(one), span_of(other))


def same_end(one, other):
    if one is None or other is None:
        return one is None and other is None
    return order_told(one, other) == 0


def same_part(one, other):
    return (one[1] == other[1] and one[3] == other[3] and same_end(one[0], other[0]) and same_end(one[2], other[2]))


def end_of_run(places, k, step):
    """Where the numbers that go with the k-th of the places end, and whether this end belongs to them.

    The places are those of a wall: the second, fourth .. stand for themselves alone, the others for all numbers up to
    their neighbours.
    """
    if k % 2 == 1:
        return (places[k], True)
    return (places[k + step], False) if 0 <= k + step < len(places) else (None, False)


def held_parts(places, truths):
    """The parts of all numbers that go with those of a wall's places of which it is true, each as long as can be."""
    parts, begin = [], 0
    for k in range(len(places)):
        if not truths[k]:
            begin = k + 1
        elif k + 1 == len(places) or not truths[k + 1]:
            parts.append(end_of_run(places, begin, -1) + end_of_run(places, k, 1))
    return parts
