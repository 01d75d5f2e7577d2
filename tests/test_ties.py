"""Points 15 and 16: ties and base rows."""

import unittest
from fractions import Fraction
from itertools import permutations

import naive
from kinds import is_plain, is_row
from naive import product, seeded
from planestacks.boards import board_minus, board_times, slope_up
from planestacks.ties import base_rows, tie_of

SIZE = 10 ** 6
CIRCLE = ((-1, 0, 1), (), (1,))
LINE = ((0, -1), (1,))
HYPERBOLA = ((-1,), (0, 1))
PARABOLA = ((0, -1), (), (1,))


def table(f, g, k):
    """The table of the point, to the word, filled place by place."""
    m, n = len(f) - 1, len(g) - 1
    many = m + n - 2 * k
    lines = [[()] * many for _ in range(many)]
    for at in range(n - k):
        for j in range(m + 1):
            if at + j < many:
                lines[at][at + j] = f[m - j]
    for at in range(m - k):
        for j in range(n + 1):
            if at + j < many:
                lines[n - k + at][at + j] = g[n - j]
    return lines


def by_all_orders(lines):
    """The determinant, by all orders of its columns."""
    total = []
    for order in permutations(range(len(lines))):
        turns = sum(order[a] > order[b] for a in range(len(order)) for b in range(a + 1, len(order)))
        part = product(*[lines[at][column] for at, column in enumerate(order)])
        total = [(total[k] if k < len(total) else 0) + (-1) ** turns * (part[k] if k < len(part) else 0)
                 for k in range(max(len(total), len(part)))]
    return tuple(naive.trimmed(total))


def eliminated(lines):
    """The determinant of a table of fractions."""
    lines = [list(line) for line in lines]
    value = Fraction(1)
    for at in range(len(lines)):
        found = [k for k in range(at, len(lines)) if lines[k][at]]
        if not found:
            return Fraction(0)
        if found[0] != at:
            lines[at], lines[found[0]] = lines[found[0]], lines[at]
            value = -value
        value *= lines[at][at]
        for k in range(at + 1, len(lines)):
            part = lines[k][at] / lines[at][at]
            lines[k] = [a - part * b for a, b in zip(lines[k], lines[at])]
    return value


def random_board(random, x_power, y_power, size):
    rows = [tuple(naive.trimmed([random.randint(-size, size) for _ in range(x_power + 1)])) for _ in range(y_power)]
    return (*rows, naive.random_row(random, random.randint(0, x_power), size))


class Ties(unittest.TestCase):

    def told(self, f, g, k, expected):
        answer = tie_of(f, g, k)
        self.assertTrue(is_row(answer), answer)
        self.assertEqual(answer, expected, (f, g, k))

    def test_by_hand(self):
        self.told(LINE, LINE, 0, ())
        self.told(LINE, LINE, 1, (1,))
        self.told(LINE, ((0, 1), (1,)), 0, (0, 2))
        # The lines (1, 0, x^2 - 1), (1, -x, 0), (0, 1, -x): the circle and y = x meet where 2 x^2 = 1.
        self.told(CIRCLE, LINE, 0, (-1, 0, 2))
        self.told(CIRCLE, LINE, 1, (1,))
        self.told(LINE, CIRCLE, 0, (-1, 0, 2))
        self.told(CIRCLE, slope_up(CIRCLE), 0, (-4, 0, 4))
        self.told(CIRCLE, HYPERBOLA, 0, (1, 0, -1, 0, 1))
        self.told(CIRCLE, HYPERBOLA, 1, (0, 1))
        self.told(CIRCLE, PARABOLA, 0, (1, -2, -1, 2, 1))
        self.told(CIRCLE, PARABOLA, 1, ())
        self.told(CIRCLE, PARABOLA, 2, (1,))

    def test_signs_of_the_table(self):
        one, other = ((2,), (3,)), ((5,), (7,))
        self.told(one, other, 0, (1,))
        self.told(other, one, 0, (-1,))
        cube = ((0, 1), (), (), (1,))
        self.told(cube, LINE, 0, by_all_orders(table(cube, LINE, 0)))
        self.told(LINE, cube, 0, by_all_orders(table(LINE, cube, 0)))

    def test_by_all_orders(self):
        random = seeded(41)
        for m in (1, 2, 3):
            for n in (1, 2, 3):
                for size in (1, 5):
                    f, g = random_board(random, 2, m, size), random_board(random, 2, n, size)
                    for k in range(min(m, n) + 1):
                        self.told(f, g, k, by_all_orders(table(f, g, k)))

    def test_values_of_great_ones(self):
        random = seeded(42)
        for m, n in ((4, 4), (4, 3), (1, 4), (4, 1), (2, 4)):
            f, g = random_board(random, 4, m, SIZE), random_board(random, 4, n, SIZE)
            for k in range(min(m, n) + 1):
                answer = tie_of(f, g, k)
                self.assertTrue(is_row(answer))
                self.assertLessEqual(len(answer), 4 * (m + n - 2 * k) + 1)
                for x in range(-17, 18):
                    lines = [[naive.value(row, Fraction(x)) for row in line] for line in table(f, g, k)]
                    self.assertEqual(naive.value(answer, x), eliminated(lines))

    def test_no_lines(self):
        random = seeded(43)
        for m in range(1, 5):
            f, g = random_board(random, 3, m, 9), random_board(random, 3, m, 9)
            self.told(f, g, m, (1,))
            self.told(f, f, m, (1,))

    def test_lines_of_one_board_only(self):
        f, g = ((1, 2), (3,), (0, 1), (5, 1)), ((7,), (0, 0, 2))
        self.told(f, g, 1, product((0, 0, 2), (0, 0, 2)))
        self.told(g, f, 1, product((0, 0, 2), (0, 0, 2)))
        quartic = ((1,), (), (), (), (0, 1))
        self.told(quartic, ((), (), (-3,)), 2, (9,))
        self.told(quartic, quartic[:1] + ((), (), (-3,)), 3, (-3,))

    def test_of_boards_that_share_a_divisor(self):
        random = seeded(44)
        for degree in (1, 2, 3):
            shared = random_board(random, 1, degree, 3)
            one, other = random_board(random, 1, 2, 3), random_board(random, 1, 1, 3)
            f, g = board_times(shared, one), board_times(shared, other)
            for k in range(degree):
                self.told(f, g, k, ())
            self.assertNotEqual(tie_of(f, g, degree), ())
        for k in range(4):
            self.told(CIRCLE[:2] + ((), (), (1,)), CIRCLE[:2] + ((), (), (1,)), k, ())

    def test_of_boards_that_do_not(self):
        self.assertNotEqual(tie_of(CIRCLE, PARABOLA, 0), ())
        self.told(((1,), (), (1,)), ((2,), (), (1,)), 0, (1,))
        self.told(((1,), (), (1,)), ((2,), (), (1,)), 1, ())

    def test_rows_of_nought_within(self):
        for f in (((), (), (1,)), ((), (0, 1), (), (2,)), ((0, 1), (), (), (), (1,)), ((), (), (), (), (0, 0, 1))):
            for g in (((), (1,)), ((1,), (), (0, 3)), ((), (), (), (1, 1)), ((5,), (), (), (1,))):
                for k in range(min(len(f), len(g))):
                    self.told(f, g, k, by_all_orders(table(f, g, k)))

    def test_numbers_near_the_room_that_they_have(self):
        # The only numbers of the determinant are as great as the bound of its lines.
        for n in (1, -1, 2, -2, 3, -4, 7, 8, -8, 255, 256, -256, 10 ** 40, -10 ** 40):
            self.told(((n,), (1,)), ((), (1,)), 0, (-n,))
            self.told(((0, n), (1,)), ((), (1,)), 0, (0, -n))
            self.told(((n, -n), (1,)), ((), (1,)), 0, (-n, n))
            self.told(((), (n,)), ((1,), (0, 1)), 0, (n,))

    def test_nothing_handed_in_is_changed(self):
        f, g = ((-1, 0, 1), (), (1,)), ((-1,), (0, 1))
        tie_of(f, g, 0)
        base_rows((f, g))
        self.assertEqual((f, g), (((-1, 0, 1), (), (1,)), ((-1,), (0, 1))))


def bare(row):
    """The bare row of a row, slowly."""
    f, g = list(row), naive.slope(row)
    while naive.trimmed(g):
        f, g = g, naive.divide(f, g)[1]
    low = naive.low(naive.divide(row, f)[0])
    return low if low[-1] > 0 else tuple(-n for n in low)


def first_tie(f, g):
    return next(tie for tie in (tie_of(f, g, k) for k in range(5)) if tie)


def expected_rows(boards):
    rows = []
    for f in boards:
        if len(f) == 1:
            rows.append(f[0])
        if len(f) > 1:
            rows.append(f[-1])
        if len(f) > 2:
            rows.append(first_tie(f, slope_up(f)))
    for at, f in enumerate(boards):
        for g in boards[:at]:
            if len(f) > 1 and len(g) > 1:
                rows.append(first_tie(f, g))
    rows = [bare(row) for row in rows]
    return sorted(set(row for row in rows if len(row) > 1))


class BaseRows(unittest.TestCase):

    def told(self, boards, expected):
        answer = base_rows(boards)
        self.assertIs(type(answer), list)
        self.assertTrue(all(is_plain(row) for row in answer), answer)
        self.assertEqual(answer, expected, boards)

    def test_none_at_all(self):
        self.told((), [])
        self.told(((),), [])
        self.told(((), ((5,),), ((-1,),)), [])

    def test_boards_without_y(self):
        self.told((((-2, 0, 1),),), [(-2, 0, 1)])
        self.told((((4, 0, -2),),), [(-2, 0, 1)])
        self.told((((1, 2, 1),),), [(1, 1)])
        self.told((((0, 1),), ((-2, 0, 1),)), [(-2, 0, 1), (0, 1)])
        self.told((((7,),), ((0, 3),), ()), [(0, 1)])

    def test_boards_of_the_first_power(self):
        self.told((LINE,), [])
        self.told((HYPERBOLA,), [(0, 1)])
        self.told((((1,), (2, 4, 2)),), [(1, 1)])
        self.told((LINE, ((1,), (1,))), [(1, 1)])
        self.told((LINE, HYPERBOLA), [(-1, 0, 1), (0, 1)])

    def test_boards_of_greater_powers(self):
        self.told((CIRCLE,), [(-1, 0, 1)])
        self.told((PARABOLA,), [(0, 1)])
        self.told((((-1,), (), (0, 1)),), [(0, 1)])
        self.told((((), (), (1,)),), [])
        self.told((((0, 0, 1), (0, 2), (1,)),), [])

    def test_of_two(self):
        self.told((CIRCLE, LINE), [(-1, 0, 1), (-1, 0, 2)])
        self.told((LINE, CIRCLE), [(-1, 0, 1), (-1, 0, 2)])
        self.told((CIRCLE, PARABOLA), [(-1, 0, 1), (-1, 1, 1), (0, 1)])

    def test_two_alike(self):
        self.told((CIRCLE, CIRCLE), [(-1, 0, 1)])
        self.told((LINE, LINE), [])
        self.told((LINE, ((0, 2), (-2,))), [])
        self.told((CIRCLE, LINE, CIRCLE, LINE), [(-1, 0, 1), (-1, 0, 2)])
        self.told((((0, 1),), ((0, 1),), ((0, -2),)), [(0, 1)])

    def test_that_share_a_divisor(self):
        one, other = board_times(CIRCLE, LINE), board_times(CIRCLE, ((1,), (1,)))
        self.told((one, other), expected_rows((one, other)))
        self.assertIn((1, 1), base_rows((one, other)))
        # They share y - x only: the tie for k = 0 is (), the one for k = 1 is told.
        one, other = board_times(LINE, ((-3, -1), (), (1,))), board_times(LINE, ((5, 0, 1), (1,)))
        self.assertEqual(tie_of(one, other, 0), ())
        self.assertIn(bare(tie_of(one, other, 1)), base_rows((one, other)))
        self.told((one, other), expected_rows((one, other)))
        square = board_times(board_times(LINE, LINE), ((-3, -1), (), (1,)))
        self.assertEqual(tie_of(square, slope_up(square), 0), ())
        self.told((square,), expected_rows((square,)))
        self.assertGreater(len(base_rows((square,))), 0)
        self.told((board_times(LINE, LINE),), expected_rows((board_times(LINE, LINE),)))
        self.told((board_times(LINE, LINE), LINE), expected_rows((board_times(LINE, LINE), LINE)))

    def test_nought_among_them(self):
        self.told(((), CIRCLE, (), LINE, ((3,),)), [(-1, 0, 1), (-1, 0, 2)])

    def test_the_order_is_that_of_tuples(self):
        boards = (((5, 1),), ((-5, 1),), ((-5, 0, 1),), ((0, 1),), ((-5, 0, 0, 1),))
        self.told(boards, [(-5, 0, 0, 1), (-5, 0, 1), (-5, 1), (0, 1), (5, 1)])

    def test_of_some(self):
        random = seeded(45)
        for size, powers in ((1, 2), (2, 2), (3, 3)):
            for _ in range(6):
                boards = tuple(random_board(random, powers, random.randint(0, powers), size) for _ in range(3))
                self.told(boards, expected_rows(boards))
                self.told(boards[::-1], expected_rows(boards))
        boards = tuple(tuple(naive.random_row(random, 4, SIZE) for _ in range(5)) for _ in range(2))
        self.assertEqual(sorted(len(row) for row in base_rows(boards)), [5, 5, 29, 29, 33])

    def test_the_list_is_the_askers_own(self):
        boards = (CIRCLE, LINE)
        base_rows(boards).clear()
        self.told(boards, [(-1, 0, 1), (-1, 0, 2)])

    def test_they_vanish_where_boards_meet(self):
        # y = x^2 and y = 4 meet above -2 and 2.
        boards = (((0, 0, -1), (1,)), ((-4,), (1,)))
        self.told(boards, [(-4, 0, 1)])
        self.assertEqual(board_minus(*boards), ((4, 0, -1),))


if __name__ == "__main__":
    unittest.main()
