"""Places, heights and regions as they are written."""

from planestacks.terms import show_term


def show_fraction(a):
    return f"{a[0]}" if a[1] == 1 else f"{a[0]}/{a[1]}"


def show_height(Y):
    if len(Y) == 2:
        return show_fraction(Y)
    board, low, high = Y
    return f"root of {show_term(board)} in ({show_fraction(low)}, {show_fraction(high)})"


def show_place(place):
    """A place is written as the height whose board is its row."""
    return show_height(place if len(place) == 2 else ((place[0],), place[1], place[2]))


def show_part(part, letter):
    low, low_in, high, high_in = part
    if low is None and high is None:
        return "all"
    if low == high:
        return f"{letter} = {show_place(low)}"
    text = letter
    if low is not None:
        text = show_place(low) + (" <= " if low_in else " < ") + text
    if high is not None:
        text += (" <= " if high_in else " < ") + show_place(high)
    return text


def show_region(region, letter):
    if region == ():
        return "none"
    return " or ".join([show_part(part, letter) for part in region])
