"""Above a place: how many roots boards have there, which heights these are, and the signs at them."""

from planestacks.boards import is_board
from planestacks.errors import NoEnds, NoHeight, NoRow
from planestacks.fractions import below, is_fraction
from planestacks.heights import height_of, heights_there, sign_at_told, told_height
from planestacks.places import refuse_no_place
from planestacks.spots import Spot
from planestacks.uprights import count_there, sign_at_height, upright


def spot_of(X):
    refuse_no_place(X)
    return Spot(X, {})


def refuse_ends_above(f, low, high, spot):
    if low is not None and high is not None and not below(low, high):
        raise NoEnds("the first end is not below the second one")
    for end in (low, high):
        if end is not None and sign_at_height(f, end, spot) == 0:
            raise NoEnds("an end is a root")


def counted_above(f, low, high, spot):
    above = upright(f, spot)
    if above == ():
        raise NoRow("the board is nought above this place")
    refuse_ends_above(above, low, high, spot)
    return count_there(above, low, high, spot)


def count_above(f, X, low, high):
    return counted_above(f, low, high, spot_of(X))


def is_root_above(thing, spot):
    """Whether it is a tuple (board, low, high) that is a height above the spot."""
    if not isinstance(thing, tuple) or len(thing) != 3:
        return False
    board, low, high = thing
    if not is_board(board) or not is_fraction(low) or not is_fraction(high):
        return False
    try:
        return counted_above(board, low, high, spot) == 1
    except (NoRow, NoEnds):
        return False


def is_height_above(thing, spot):
    return is_fraction(thing) or is_root_above(thing, spot)


def is_height(thing, X):
    return is_height_above(thing, spot_of(X))


def height_above(Y, spot):
    """The object of a height above the spot."""
    if not is_height_above(Y, spot):
        raise NoHeight("this is no height above this place")
    return height_of(Y, spot)


def heights_of(boards, X):
    return [told_height(height) for height in heights_there(boards, spot_of(X))]


def sign_above(f, X, Y):
    return sign_at_told(f, height_above(Y, spot_of(X)))
