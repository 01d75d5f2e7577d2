"""Points 19 and 20: walls and their cells."""

import unittest
from fractions import Fraction

from kinds import is_fraction, is_whole
from naive import number, pair, random_row, seeded, trimmed
from planestacks.above import count_above, heights_of, is_height, sign_above
from planestacks.boards import board_times, board_value, turned
from planestacks.places import is_place, order_of, sign_at
from planestacks.roots import roots_of
from planestacks.ties import base_rows
from planestacks.walls import cells_of, wall_of

CIRCLE = ((-1, 0, 1), (), (1,))
PARABOLA = ((0, -1), (), (1,))
HYPERBOLA = ((-1,), (0, 1))
LINE = ((0, -1), (1,))
TWO = (-2, 0, 1)
# Folium, cusp, lemniscate: curves that cross themselves or end in a point.
FOLIUM = ((0, 0, 0, 1), (0, -3), (), (1,))
CUSP = ((0, 0, 0, -1), (), (1,))
LEMNISCATE = ((0, 0, -1, 0, 1), (), (1, 0, 2), (), (1,))


def random_board(random, powers, size):
    rows = [tuple(trimmed([random.randint(-size, size) for _ in range(powers + 1)])) for _ in range(powers)]
    return (*rows, random_row(random, random.randint(0, powers), size))


def some_boards():
    random = seeded(51)
    some = [(), ((),), (((7,),),), (((7,),), ()), (CIRCLE,), (PARABOLA,), (HYPERBOLA,), (LINE,), (CIRCLE, LINE),
            (LINE, CIRCLE), (CIRCLE, PARABOLA), (CIRCLE, HYPERBOLA), (CIRCLE, PARABOLA, LINE, HYPERBOLA),
            (((-1, 0, 1),),), ((TWO,), ((0, 1),)), ((TWO,), CIRCLE), (LINE, LINE), (CIRCLE, CIRCLE, LINE),
            (((), (1,)),), (((), (1,)), ((1,), (1,)), ((-1,), (1,))), (board_times(LINE, LINE),),
            (board_times(CIRCLE, LINE), board_times(CIRCLE, HYPERBOLA)), (FOLIUM,), (CUSP, LINE), (LEMNISCATE,),
            (((), TWO), LINE), (board_times((TWO,), CIRCLE), PARABOLA), (((1,), (), (1,)),), (((1, 0, 1), (1,)),),
            (turned(PARABOLA), PARABOLA), ((), CIRCLE, ((5,),)), (((-2,), (), (1,)), PARABOLA)]
    some += [tuple(random_board(random, 2, size) for _ in range(many)) for size in (1, 3, 100) for many in (1, 2, 3)]
    some += [(random_board(random, 3, 2),), (random_board(random, 3, 2), random_board(random, 1, 2))]
    return some


def begin(Y):
    return number(Y if len(Y) == 2 else Y[1])


def end(Y):
    return number(Y if len(Y) == 2 else Y[2])


class Walls(unittest.TestCase):

    def is_wall(self, wall, boards):
        self.assertIs(type(wall), tuple)
        self.assertEqual(len(wall) % 2, 1)
        for at, stack in enumerate(wall):
            self.assertIs(type(stack), tuple)
            self.assertEqual(len(stack), 2)
            self.assertTrue(is_place(stack[0]))
            if at % 2 == 0:
                self.assertTrue(is_fraction(stack[0]))
            if at:
                self.assertEqual(order_of(wall[at - 1][0], stack[0]), -1)
            self.is_stack(stack, boards)

    def is_stack(self, stack, boards):
        X, heights = stack
        self.assertIs(type(heights), tuple)
        noughts = [0] * len(boards)
        for Y in heights:
            self.assertTrue(is_height(Y, X), (X, Y))
            self.assertTrue(len(Y) == 2 or Y[0] in boards)
            signs = [sign_above(f, X, Y) for f in boards]
            full = [sign == 0 and any(sign_at(row, X) for row in f) for f, sign in zip(boards, signs)]
            self.assertTrue(any(full), (boards, X, Y))
            noughts = [n + one for n, one in zip(noughts, full)]
        for f, many in zip(boards, noughts):
            if any(sign_at(row, X) for row in f):
                self.assertEqual(count_above(f, X, None, None), many, (f, X))
        for one, other in zip(heights, heights[1:]):
            self.assertTrue(end(one) < begin(other) or end(one) == begin(other) and len(one) == len(other) == 3)

    def has_all_places(self, wall, boards):
        places = [X for X, heights in wall][1::2]
        rows = base_rows(boards)
        for X in places:
            self.assertTrue(any(sign_at(row, X) == 0 for row in rows))
        for row in rows:
            roots = roots_of(row)
            met = [X for X in places if sign_at(row, X) == 0]
            self.assertEqual(len(met), len(roots), (boards, row))
            self.assertTrue(all(order_of(X, root) == 0 for X, root in zip(met, roots)))

    def test_places_are_the_roots_of_the_base_rows(self):
        for boards in some_boards():
            self.has_all_places(wall_of(boards), boards)

    def test_stacks(self):
        for boards in some_boards():
            self.is_wall(wall_of(boards), boards)

    def test_of_none(self):
        for boards in ((), ((),), (((7,),), ())):
            wall = wall_of(boards)
            self.assertEqual(len(wall), 1)
            self.assertTrue(is_fraction(wall[0][0]))
            self.assertEqual(wall[0][1], ())

    def test_by_hand(self):
        for boards, places, many in (
                ((CIRCLE,), ((-1, 1), (1, 1)), [0, 1, 2, 1, 0]),
                ((PARABOLA,), ((0, 1),), [0, 1, 2]),
                ((HYPERBOLA,), ((0, 1),), [1, 0, 1]),
                ((LINE,), (), [1]),
                ((((0, -4, 1),),), ((0, 1), (4, 1)), [0] * 5),
                ((((0, -4, 1),), LINE), ((0, 1), (4, 1)), [1] * 5),
                ((((0, 0, -1), (1,)), ((-4,), (1,))), ((-2, 1), (2, 1)), [2, 1, 2, 1, 2]),
                ((CUSP,), ((0, 1),), [0, 1, 2])):
            wall = wall_of(boards)
            self.assertEqual(tuple(X for X, heights in wall)[1::2], places)
            self.assertEqual([len(heights) for X, heights in wall], many)
        self.assertEqual(wall_of((CIRCLE,))[1][1], ((0, 1),))
        self.assertEqual([len(heights) for X, heights in wall_of((CIRCLE, LINE))], [1, 2, 3, 2, 3, 2, 3, 2, 1])

    def test_boards_of_the_bounds(self):
        random = seeded(52)
        boards = tuple(tuple(random_row(random, 4, 10 ** 6) for _ in range(5)) for _ in range(2))
        wall = wall_of(boards)
        self.has_all_places(wall, boards)
        for stack in wall[:5]:
            self.is_stack(stack, boards)

    def test_nothing_handed_in_is_changed(self):
        boards = (((-1, 0, 1), (), (1,)), ((0, -1), (1,)))
        wall = wall_of(boards)
        cells_of(boards, wall).clear()
        self.assertEqual(boards, (((-1, 0, 1), (), (1,)), ((0, -1), (1,))))
        self.assertEqual(wall, wall_of(boards))


class Cells(unittest.TestCase):

    def told(self, boards, wall):
        answer = cells_of(boards, wall)
        self.assertIs(type(answer), list)
        self.assertEqual(len(answer), sum(2 * len(heights) + 1 for X, heights in wall))
        at = 0
        for X, heights in wall:
            for level in range(2 * len(heights) + 1):
                self.is_cell(answer[at], boards, X, heights, level)
                at += 1
        return answer

    def is_cell(self, cell, boards, X, heights, level):
        self.assertIs(type(cell), tuple)
        self.assertEqual(cell[0], X)
        Y = cell[1]
        if level % 2:
            self.assertEqual(Y, heights[level // 2])
        else:
            self.assertTrue(is_fraction(Y), cell)
            if level:
                self.assertGreaterEqual(number(Y), end(heights[level // 2 - 1]))
                self.assertNotEqual(Y, heights[level // 2 - 1])
            if level < 2 * len(heights):
                self.assertLessEqual(number(Y), begin(heights[level // 2]))
                self.assertNotEqual(Y, heights[level // 2])
        self.assertEqual(len(cell), 3)
        self.assertIs(type(cell[2]), tuple)
        self.assertTrue(all(is_whole(sign) for sign in cell[2]))
        self.assertEqual(cell[2], tuple(sign_above(f, X, Y) for f in boards), (boards, cell))

    def test_of_some(self):
        for boards in some_boards():
            self.told(boards, wall_of(boards))

    def test_by_hand(self):
        self.assertEqual([signs for X, Y, signs in cells_of((CIRCLE,), wall_of((CIRCLE,)))],
                         [(1,)] + [(1,), (0,), (1,)] + [(1,), (0,), (-1,), (0,), (1,)] + [(1,), (0,), (1,)] + [(1,)])
        self.assertEqual([signs for X, Y, signs in cells_of((LINE, ((0, 1),)), wall_of((LINE, ((0, 1),))))],
                         [(-1, -1), (0, -1), (1, -1), (-1, 0), (0, 0), (1, 0), (-1, 1), (0, 1), (1, 1)])
        self.assertEqual([signs for X, Y, signs in cells_of(((), ((-3,),)), wall_of(((), ((-3,),))))], [(0, -1)])
        self.assertEqual([signs for X, Y, signs in cells_of((), wall_of(()))], [()])

    def test_what_is_told_is_new(self):
        wall = wall_of((CIRCLE,))
        cells = cells_of((CIRCLE,), wall)
        for X, heights in wall:
            for cell in cells:
                self.assertIsNot(cell[0], X)
                self.assertTrue(all(cell[1] is not Y for Y in heights))

    def test_a_board_that_is_nought_above_a_place(self):
        boards = (((), (0, 1)),)
        signs = [signs for X, Y, signs in cells_of(boards, wall_of(boards))]
        self.assertEqual(signs, [(1,), (0,), (-1,), (0,), (-1,), (0,), (1,)])

    def test_a_cell_has_one_sign(self):
        random = seeded(53)
        for boards in some_boards():
            wall = wall_of(boards)
            cells = cells_of(boards, wall)
            for _ in range(6):
                x = Fraction(random.randint(-30, 30), random.randint(1, 12))
                y = Fraction(random.randint(-30, 30), random.randint(1, 12))
                signs = self.cell_with(x, y, boards, wall, cells)[2]
                values = [number(board_value(f, pair(x), pair(y))) for f in boards]
                self.assertEqual(signs, tuple((n > 0) - (n < 0) for n in values), (boards, x, y))

    def cell_with(self, x, y, boards, wall, cells):
        """The cell in which a point lies, by how many places and heights lie below it, and at it."""
        orders = [order_of(X, pair(x)) for X, heights in wall[1::2]]
        stack = 2 * orders.count(-1) + orders.count(0)
        heights = heights_of(boards, pair(x))
        self.assertEqual(len(heights), len(wall[stack][1]), (boards, x))
        level = 0
        for Y in heights:
            if len(Y) == 2:
                level += 2 if number(Y) < y else 1 if number(Y) == y else 0
            else:
                level += 2 if self.is_below(Y, pair(x), y) else 0
        start = sum(2 * len(wall[k][1]) + 1 for k in range(stack))
        return cells[start + level]

    def is_below(self, Y, x, y):
        """Whether a height that is no fraction lies below y."""
        if not number(Y[1]) < y < number(Y[2]):
            return number(Y[2]) <= y
        return count_above(Y[0], x, Y[1], pair(y)) == 1

    def test_each_point_of_the_plane(self):
        # The points where circle and line meet are one cell each: x = y = 1/2 of the root of 2, and the opposite one.
        boards = (CIRCLE, LINE)
        cells = [cell for cell in cells_of(boards, wall_of(boards)) if cell[2] == (0, 0)]
        self.assertEqual(len(cells), 2)
        for X, Y, signs in cells:
            self.assertEqual(sign_at((-1, 0, 2), X), 0)
            self.assertEqual(sign_above(((-1,), (), (2,)), X, Y), 0)

    def test_walls_told_in_other_forms(self):
        boards = (CIRCLE,)
        minus, plus = ((-1, 0, 1), (-3, 2), (-1, 2)), ((1, -2, 1), (-7, 1), (10 ** 20, 3))
        wall = (((-17, 2), ()),
                (minus, ((((), (1,)), (-1, 1), (1, 5)),)),
                ((-1, 3), ((((-8,), (), (9,)), (-2, 1), (0, 1)), (CIRCLE, (0, 1), (5, 1)))),
                (plus, ((CIRCLE, (-1, 3), (1, 1)),)),
                ((3, 1), ()))
        cells = self.told(boards, wall)
        self.assertEqual([signs for X, Y, signs in cells],
                         [(1,)] + [(1,), (0,), (1,)] + [(1,), (0,), (-1,), (0,), (1,)] + [(1,), (0,), (1,)] + [(1,)])

    def test_other_forms_of_roots(self):
        # y = x and y^2 = 2: the places are the square roots of 2; heights told by boards of another form.
        boards = (LINE, ((-2,), (), (1,)))
        wall = wall_of(boards)
        self.assertEqual(len(wall), 5)
        root = ((4, 0, -4, 0, 1), (0, 1), (9, 1))
        other = ((-2, 0, 1), (-2, 1), (0, 1))
        same = board_times(LINE, LINE)
        square, fourth = ((-2,), (), (1,)), ((-4,), (), (), (), (1,))
        handed = (wall[0], (other, ((square, (-2, 1), (0, 1)), (fourth, (0, 1), (2, 1)))), wall[2],
                  (root, ((square, (-2, 1), (0, 1)), (same, (1, 2), (3, 2)))), wall[4])
        cells = self.told(boards, handed)
        self.assertEqual([signs for X, Y, signs in cells], [signs for X, Y, signs in cells_of(boards, wall)])

    def test_heights_that_touch(self):
        boards = (((), (-2,), (), (1,)),)
        wall = (((0, 1), ((boards[0], (-2, 1), (-1, 1)), (boards[0], (-1, 1), (1, 1)), (boards[0], (1, 1), (9, 1)))),)
        cells = self.told(boards, wall)
        self.assertEqual([cell[1] for cell in cells[2:5:2]], [(-1, 1), (1, 1)])
        self.assertEqual([cell[2] for cell in cells], [(-1,), (0,), (1,), (0,), (-1,), (0,), (1,)])

    def test_the_list_is_the_askers_own(self):
        boards = (CIRCLE, LINE)
        wall = wall_of(boards)
        first = cells_of(boards, wall)
        kept = list(first)
        first.clear()
        self.assertEqual(cells_of(boards, wall), kept)
        tuples = [Y for X, Y, signs in kept if len(Y) == 3]
        self.assertTrue(tuples)
        self.assertTrue(all(Y is not Z for Y in tuples for X, heights in wall for Z in heights))


if __name__ == "__main__":
    unittest.main()
