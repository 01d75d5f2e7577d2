"""Numbers a + b * (square root of 2), exact, to hold heights above that place against."""

from fractions import Fraction
from functools import total_ordering

from naive import number
from planestacks.boards import board_times

TWO = (-2, 0, 1)


@total_ordering
class Surd:

    def __init__(self, a, b=0):
        self.a, self.b = Fraction(a), Fraction(b)

    def __add__(self, other):
        other = surd(other)
        return Surd(self.a + other.a, self.b + other.b)

    __radd__ = __add__

    def __mul__(self, other):
        other = surd(other)
        return Surd(self.a * other.a + 2 * self.b * other.b, self.a * other.b + self.b * other.a)

    __rmul__ = __mul__

    def __eq__(self, other):
        other = surd(other)
        return (self.a, self.b) == (other.a, other.b)

    def __hash__(self):
        return hash((self.a, self.b))

    def __lt__(self, other):
        return (self + surd(other) * -1).sign() < 0

    def __repr__(self):
        return f"{self.a} + {self.b} r"

    def inverse(self):
        norm = self.a ** 2 - 2 * self.b ** 2
        return Surd(self.a / norm, -self.b / norm)

    def other(self):
        """The same with the other square root of 2."""
        return Surd(self.a, -self.b)

    def sign(self):
        """The greater square tells which of both parts wins."""
        parts = [(n > 0) - (n < 0) for n in (self.a, self.b)]
        if parts[0] * parts[1] >= 0:
            return parts[0] or parts[1]
        return parts[0] if self.a ** 2 > 2 * self.b ** 2 else parts[1]


def surd(thing):
    if isinstance(thing, Surd):
        return thing
    return Surd(number(thing)) if isinstance(thing, tuple) else Surd(thing)


def value(board, x, y):
    """The value of a board at two such numbers."""
    total = Surd(0)
    for row in reversed(board):
        inner = Surd(0)
        for n in reversed(row):
            inner = inner * x + n
        total = total * y + inner
    return total


def line(a, b=0):
    """The board of the first power of y that is 0 where y = a + b x."""
    a, b = Fraction(a), Fraction(b)
    bottom = a.denominator * b.denominator
    row = (int(-a * bottom), int(-b * bottom))
    return (row if row[1] else row[:1] if row[0] else (), (bottom,))


def times(*boards):
    whole = ((1,),)
    for board in boards:
        whole = board_times(whole, board)
    return whole
