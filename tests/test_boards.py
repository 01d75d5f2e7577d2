"""Point 11: boards."""

import unittest
from fractions import Fraction

from kinds import is_board, is_fraction, is_row
from naive import low, number, pair, seeded
from planestacks.boards import (
    board_minus, board_plus, board_times, board_value, row_above, slope_up, turned)

SIZE = 10 ** 6
BIG = 10 ** 30 - 1
# x y - 1, the circle of radius 1, and y^2 - x
HYPERBOLA = ((-1,), (0, 1))
CIRCLE = ((-1, 0, 1), (), (1,))
PARABOLA = ((0, -1), (), (1,))


def table(board):
    """The numbers by their powers (of x, of y), without noughts."""
    return {(i, j): n for j, row in enumerate(board) for i, n in enumerate(row) if n}


def board(numbers):
    """The board of such a table."""
    rows = [[0] * (1 + max([i for i, j in numbers], default=0)) for _ in range(1 + max([j for i, j in numbers], default=0))]
    for (i, j), n in numbers.items():
        rows[j][i] = n
    rows = [tuple(row) for row in rows]
    rows = [row[:max([i + 1 for i, n in enumerate(row) if n], default=0)] for row in rows]
    while rows and rows[-1] == ():
        rows.pop()
    return tuple(rows)


def summed(pairs):
    numbers = {}
    for powers, n in pairs:
        numbers[powers] = numbers.get(powers, 0) + n
    return {powers: n for powers, n in numbers.items() if n}


def sample():
    random = seeded(15)
    some = [(), ((3,),), ((-3,),), ((0, 1),), ((), (1,)), ((), (), (-2,)), HYPERBOLA, CIRCLE, PARABOLA,
            ((0, 0, 1), (), (), (), (0, 0, 0, 0, -1)), ((SIZE,) * 5,) * 5]
    for size in (1, 3, SIZE):
        for powers in (1, 2, 4):
            for _ in range(4):
                keys = [(i, j) for i in range(powers + 1) for j in range(powers + 1) if random.random() < 0.6]
                some.append(board(summed((key, random.randint(-size, size)) for key in keys)))
    return some


class Helpers(unittest.TestCase):

    def test_the_tables_are_the_boards(self):
        for f in sample():
            self.assertTrue(is_board(f), f)
            self.assertEqual(board(table(f)), f)


class Reckoned(unittest.TestCase):

    def told(self, answer, expected):
        self.assertTrue(is_board(answer), answer)
        self.assertEqual(answer, expected)

    def test_by_hand(self):
        self.told(board_plus(CIRCLE, HYPERBOLA), ((-2, 0, 1), (0, 1), (1,)))
        self.told(board_minus(CIRCLE, HYPERBOLA), ((0, 0, 1), (0, -1), (1,)))
        self.told(board_times(((0, 1), (1,)), ((0, 1), (-1,))), ((0, 0, 1), (), (-1,)))
        self.told(slope_up(CIRCLE), ((), (2,)))
        self.told(slope_up(((1, 1), (5,), (0, 0, 3), (7,))), ((5,), (0, 0, 6), (21,)))
        self.told(turned(PARABOLA), ((0, 0, 1), (-1,)))

    def test_powers_that_go_out(self):
        self.told(board_minus(CIRCLE, PARABOLA), ((-1, 1, 1),))
        self.told(board_minus(((1,), (0, 2)), ((), (0, 2))), ((1,),))
        self.told(board_plus(((1,), (0, 2)), ((-1,), (0, -2))), ())
        self.told(board_minus(((5,), (), (1, 1)), ((5,), (0, 1), (1, 1))), ((), (0, -1)))
        self.told(board_plus(((1, 1), (1, 1)), ((1, -1), (0, -1))), ((2,), (1,)))
        self.told(board_times(((1,), (0, 1)), ((1,), (0, -1))), ((1,), (), (0, 0, -1)))
        for f in sample():
            self.told(board_minus(f, f), ())

    def test_nought(self):
        for f in sample():
            self.told(board_plus(f, ()), f)
            self.told(board_plus((), f), f)
            self.told(board_minus(f, ()), f)
            self.told(board_minus((), f), tuple(tuple(-n for n in row) for row in f))
            self.told(board_times(f, ()), ())
            self.told(board_times((), f), ())
        self.told(slope_up(()), ())
        self.told(slope_up(((4, 5),)), ())
        self.told(turned(()), ())

    def test_of_some(self):
        for f in sample():
            for g in sample():
                a, b = table(f), table(g)
                negative = [(key, -n) for key, n in b.items()]
                many = [((i + k, j + m), n * o) for (i, j), n in a.items() for (k, m), o in b.items()]
                self.told(board_plus(f, g), board(summed([*a.items(), *b.items()])))
                self.told(board_minus(f, g), board(summed([*a.items(), *negative])))
                self.told(board_times(f, g), board(summed(many)))

    def test_slopes(self):
        for f in sample():
            expected = {(i, j - 1): j * n for (i, j), n in table(f).items() if j}
            self.told(slope_up(f), board(expected))

    def test_turned(self):
        for f in sample():
            self.told(turned(f), board({(j, i): n for (i, j), n in table(f).items()}))
            self.told(turned(turned(f)), f)
        self.told(turned(((0, 0, 1),)), ((), (), (1,)))
        self.told(turned(((), (), (1,))), ((0, 0, 1),))


class Values(unittest.TestCase):

    def spots(self):
        random = seeded(16)
        some = [Fraction(0), Fraction(1), Fraction(-3, 2), Fraction(1, BIG), Fraction(-BIG, BIG - 1)]
        return some + [Fraction(random.randint(-BIG, BIG), random.randint(1, BIG)) for _ in range(2)]

    def test_by_hand(self):
        self.assertEqual(board_value(CIRCLE, (3, 5), (4, 5)), (0, 1))
        self.assertEqual(board_value(HYPERBOLA, (2, 3), (1, 2)), (-2, 3))
        self.assertEqual(board_value((), (2, 3), (1, 2)), (0, 1))
        self.assertEqual(board_value(((7,),), (2, 3), (1, 2)), (7, 1))

    def test_of_some(self):
        for f in sample():
            for x in self.spots():
                for y in self.spots():
                    answer = board_value(f, pair(x), pair(y))
                    self.assertTrue(is_fraction(answer), answer)
                    expected = sum((n * x ** i * y ** j for (i, j), n in table(f).items()), Fraction(0))
                    self.assertEqual(number(answer), expected)

    def above(self, f, x, expected):
        answer = row_above(f, x)
        self.assertTrue(is_row(answer), answer)
        self.assertEqual(answer, expected, (f, x))

    def test_above_by_hand(self):
        self.above(CIRCLE, (1, 2), (-3, 0, 4))
        self.above(CIRCLE, (1, 1), (0, 0, 1))
        self.above(((2, 0, -2), (), (-2,)), (1, 2), (3, 0, -4))
        self.above(((4,), (6,)), (9, 7), (2, 3))
        self.above(((-4,),), (9, 7), (-1,))

    def test_above_where_powers_go_out(self):
        self.above(HYPERBOLA, (0, 1), (-1,))
        self.above(((0, 1), (-1, 2), (-1, 2)), (1, 2), (1,))
        self.above(((-1, 2), (-1, 2)), (1, 2), ())
        self.above((), (1, 2), ())

    def test_above_of_some(self):
        for f in sample():
            for x in self.spots():
                values = [sum((n * x ** i for i, n in enumerate(row)), Fraction(0)) for row in f]
                self.above(f, pair(x), low(values))


class HandedIn(unittest.TestCase):

    def test_nothing_is_changed(self):
        f, g = ((-1, 0, 1), (), (1,)), ((-1,), (0, 1))
        for ask in (board_plus, board_minus, board_times):
            ask(f, g)
        for ask in (slope_up, turned):
            ask(f)
        board_value(f, (1, 2), (1, 3))
        row_above(f, (1, 2))
        self.assertEqual((f, g), (((-1, 0, 1), (), (1,)), ((-1,), (0, 1))))


if __name__ == "__main__":
    unittest.main()
