"""Points 17 and 18: above a place."""

import unittest
from fractions import Fraction

import surds
from kinds import Odd, is_board, is_fraction, is_whole, things
from naive import number, pair, product, seeded, with_roots
from planestacks.above import count_above, heights_of, is_height, sign_above
from planestacks.boards import board_plus, board_times
from planestacks.errors import NoEnds, NoHeight, NoPlace, NoRow
from planestacks.places import finer
from planestacks.roots import roots_of
from surds import TWO, Surd, line, times

BIG = 10 ** 30 - 1
ROOT = (TWO, (1, 1), (2, 1))
MINUS_ROOT = (TWO, (-2, 1), (-1, 1))
CIRCLE = ((-1, 0, 1), (), (1,))
PARABOLA = ((0, -1), (), (1,))
HYPERBOLA = ((-1,), (0, 1))
LINE = ((0, -1), (1,))
NOUGHT = (TWO,)
NO_PLACES = [(2, 4), (TWO, (-2, 1), (2, 1)), (TWO, (2, 1), (3, 1)), [TWO, (1, 1), (2, 1)], (True, 1), Odd()]

# The square root of 2 told in many ways.
ROOTS = (ROOT, (TWO, (0, 1), (BIG, 1)), ((2, 0, -1), (7, 5), (3, 2)), ((4, 0, -4, 0, 1), (7, 5), (3, 2)),
         (product(TWO, (-3, 0, 1)), (1, 1), (3, 2)), (product(TWO, TWO, TWO, (-3, 2), (-5, 3)), (0, 1), (29, 20)),
         (product(TWO, (-7, 5), (-17, 12)), (141, 100), (283, 200)), (product(TWO, (0, 1)), (1, 3), (5, 3)))
# One half told in many ways.
HALVES = ((1, 2), ((-1, 2), (0, 1), (1, 1)), (product((-1, 2), TWO), (0, 1), (1, 1)),
          (product((-1, 2), (-1, 2)), (-9, 1), (BIG, 1)), (with_roots(Fraction(1, 2), 0), (1, 7), (6, 7)))


def places():
    """Each place with the number of Surd that it is."""
    return ([(X, Surd(0, 1)) for X in ROOTS] + [(X, Surd(Fraction(1, 2))) for X in HALVES]
            + [(MINUS_ROOT, Surd(0, -1)), ((0, 1), Surd(0)), ((-BIG, BIG - 1), Surd(Fraction(-BIG, BIG - 1)))])


class Sample:
    """Boards made of lines, so that their heights above each place are known."""

    def __init__(self, seed):
        random = seeded(seed)
        pool = [(random.choice((0, 1, -2, Fraction(1, 2), Fraction(-7, 3))), random.choice((0, 0, 1, -1, Fraction(3, 2))))
                for _ in range(5)]
        self.lines = [[random.choice(pool) for _ in range(random.randint(0, 3))] for _ in range(random.randint(1, 3))]
        self.boards = tuple(self.made(random, lines) for lines in self.lines)

    def made(self, random, lines):
        board = times(*[line(a, b) for a, b in lines])
        return board_times(board, random.choice((((1,),), ((-3,),), ((7, 1),), ((1,), (), (1,)), ((9, 1), (), (2,)))))

    def roots(self, at, x):
        return sorted({Surd(a) + Surd(b) * x for a, b in self.lines[at]})


def sum_at(numbers, y):
    total = 0
    for n in reversed(numbers):
        total = total * y + n
    return total


class Count(unittest.TestCase):

    def told(self, f, X, low, high, expected):
        answer = count_above(f, X, low, high)
        self.assertTrue(is_whole(answer), answer)
        self.assertEqual(answer, expected, (f, X, low, high))

    def test_above_fractions(self):
        self.told(CIRCLE, (0, 1), None, None, 2)
        self.told(CIRCLE, (0, 1), (0, 1), None, 1)
        self.told(CIRCLE, (0, 1), None, (0, 1), 1)
        self.told(CIRCLE, (0, 1), (-2, 1), (2, 1), 2)
        self.told(CIRCLE, (0, 1), (-1, 2), (1, 2), 0)
        self.told(CIRCLE, (3, 5), (-5, 6), (5, 6), 2)
        self.told(CIRCLE, (1, 1), None, None, 1)
        self.told(CIRCLE, (2, 1), None, None, 0)
        self.told(((5,),), (2, 1), None, None, 0)
        self.told(((5,),), (2, 1), (0, 1), (1, 1), 0)

    def test_above_other_places(self):
        for X in ROOTS:
            self.told(PARABOLA, X, None, None, 2)
            self.told(PARABOLA, X, (0, 1), (6, 5), 1)
            self.told(PARABOLA, X, (0, 1), (59, 50), 0)
            self.told(PARABOLA, X, (-BIG, 1), (BIG, 1), 2)
            self.told(CIRCLE, X, None, None, 0)
            self.told(LINE, X, (1, 1), (2, 1), 1)
            self.told(LINE, X, (7, 5), (17, 12), 1)
            self.told(LINE, X, (17, 12), None, 0)
            self.told(LINE, X, None, (7, 5), 0)
            self.told(HYPERBOLA, X, None, None, 1)

    def test_roots_taken_more_than_once(self):
        for X in ROOTS:
            square = times(LINE, LINE)
            self.told(square, X, None, None, 1)
            self.told(square, X, (1, 1), (2, 1), 1)
            self.told(square, X, (2, 1), (3, 1), 0)
            self.told(times(square, LINE, line(0, -1)), X, None, None, 2)
            # y^2 - 2 x y + 2 is a square above the square root of 2 only.
            self.told(((2,), (0, -2), (1,)), X, None, None, 1)
            self.told(((2,), (0, -2), (1,)), X, (1, 1), (2, 1), 1)
        self.told(((2,), (0, -2), (1,)), (7, 5), None, None, 0)
        self.told(((2,), (0, -2), (1,)), (3, 2), None, None, 2)
        for X in HALVES:
            self.told(times(line(0, 1), line(Fraction(1, 2)), line(1)), X, None, None, 2)

    def test_powers_that_go_out(self):
        for X in ROOTS:
            f = board_plus(LINE, ((), (), (), TWO))
            self.told(f, X, None, None, 1)
            self.told(f, X, (1, 1), (2, 1), 1)
            self.told(board_plus(((3,),), ((), TWO)), X, None, None, 0)
            self.told(board_plus(((3,),), ((), TWO)), X, (0, 1), (1, 1), 0)
        self.told(HYPERBOLA, (0, 1), None, None, 0)
        for X in HALVES:
            self.told(((-1,), (1,), (-1, 2)), X, None, None, 1)
            self.told(((-1,), (1,), (), (-1, 2)), X, (0, 1), (2, 1), 1)

    def test_against_lines(self):
        for seed in range(12):
            sample = Sample(seed)
            for X, x in places():
                for at, board in enumerate(sample.boards):
                    roots = sample.roots(at, x)
                    if not any(surds.value((row,), x, Surd(0)) != 0 for row in board):
                        continue
                    for low, high in ((None, None), ((0, 1), None), (None, (1, 3)), ((-5, 2), (5, 7)), ((1, 10), (9, 1))):
                        ends = [number(end) for end in (low, high) if end is not None]
                        if any(root == end for root in roots for end in ends):
                            with self.assertRaises(NoEnds):
                                count_above(board, X, low, high)
                            continue
                        inside = [root for root in roots if (low is None or root > number(low))
                                  and (high is None or root < number(high))]
                        self.told(board, X, low, high, len(inside))

    def test_few_powers_and_any_sign(self):
        # Powers that are missing make steps of the chain go down by more than one.
        random = seeded(62)
        for _ in range(60):
            power = random.choice((3, 4, 5))
            rows = [random.choice(((), (), (random.randint(-5, 5) or 1,), (random.randint(-3, 3), random.choice((-2, -1, 1, 2)))))
                    for _ in range(power)]
            f = (*rows, (random.randint(-3, 3), random.choice((-2, -1, 1, 2))))
            grid = [k / 32 + 1 / 977 for k in range(-32 * 20, 32 * 20)]
            for X, x in ((ROOT, 2 ** 0.5), (MINUS_ROOT, -2 ** 0.5)):
                numbers = [sum_at(row, x) for row in f]
                signs = [sum_at(numbers, y) > 0 for y in grid]
                changes = sum(one != other for one, other in zip(signs, signs[1:]))
                many = count_above(f, X, None, None)
                self.told(tuple(tuple(-n for n in row) for row in f), X, None, None, many)
                if f[0] != ():
                    self.told(f, X, (-20, 1), (20, 1), changes)

    def test_no_ends(self):
        for X in (*ROOTS[:3], *HALVES):
            for low, high in (((1, 1), (1, 1)), ((2, 1), (1, 1)), ((BIG, 1), (-BIG, 1))):
                with self.assertRaises(NoEnds):
                    count_above(LINE, X, low, high)
            for low, high in (((3, 1), None), (None, (3, 1)), ((3, 1), (4, 1)), ((2, 1), (3, 1)), ((3, 1), (2, 1))):
                with self.assertRaises(NoEnds):
                    count_above(line(3), X, low, high)
        for X in HALVES:
            with self.assertRaises(NoEnds):
                count_above(LINE, X, (1, 2), (1, 1))
        for X in ROOTS:
            with self.assertRaises(NoEnds):
                count_above(((-2,), (0, 1)), (1, 1), (2, 1), (3, 1))
            with self.assertRaises(NoEnds):
                # x^2 y - 2 y^3 .. is 0 at y = 1 above the root of 2.
                count_above(((), (0, 0, 1), (-2,)), X, (1, 1), (3, 1))

    def test_nought(self):
        for X in (*ROOTS, MINUS_ROOT):
            for f in ((), NOUGHT, ((), TWO), (TWO, product(TWO, (5, 1)), TWO)):
                with self.assertRaises(NoRow):
                    count_above(f, X, None, None)
        for X in HALVES:
            with self.assertRaises(NoRow):
                count_above(((-1, 2), (-3, 6)), X, (0, 1), (1, 1))
        self.told(NOUGHT, (7, 5), None, None, 0)

    def test_no_place(self):
        for X in things() + NO_PLACES:
            with self.assertRaises(NoPlace):
                count_above(LINE, X, None, None)

    def test_order_of_refusals(self):
        with self.assertRaises(NoPlace):
            count_above((), (2, 4), (1, 1), (0, 1))
        with self.assertRaises(NoRow):
            count_above((), (1, 2), (1, 1), (0, 1))
        with self.assertRaises(NoRow):
            count_above(NOUGHT, ROOT, (1, 1), (0, 1))
        with self.assertRaises(NoEnds):
            count_above(LINE, ROOT, (1, 1), (0, 1))


class WhatIsAHeight(unittest.TestCase):

    def is_one(self, thing, X):
        self.assertIs(is_height(thing, X), True, (thing, X))

    def is_none(self, thing, X):
        self.assertIs(is_height(thing, X), False, (thing, X))

    def test_fractions(self):
        for X in (ROOT, (1, 2), HALVES[1]):
            for Y in ((0, 1), (-7, 5), (BIG, BIG - 1), (10 ** 100, 1)):
                self.is_one(Y, X)
            for Y in ((0, 2), (2, 4), (1, 0), (1, -2), (True, 1), (1, True), [1, 2], (1,), (1, 2, 3), ("1", 2)):
                self.is_none(Y, X)

    def test_tuples(self):
        for X in ROOTS:
            self.is_one((PARABOLA, (1, 1), (2, 1)), X)
            self.is_one((PARABOLA, (0, 1), (BIG, 1)), X)
            self.is_one((LINE, (1, 1), (2, 1)), X)
            self.is_one((times(LINE, LINE), (1, 1), (2, 1)), X)
            self.is_one((board_plus(LINE, ((), (), TWO)), (1, 1), (2, 1)), X)
            self.is_one((((2,), (0, -2), (1,)), (1, 1), (2, 1)), X)
            self.is_none((PARABOLA, (-2, 1), (2, 1)), X)
            self.is_none((PARABOLA, (2, 1), (3, 1)), X)
            self.is_none((CIRCLE, (-2, 1), (2, 1)), X)
            self.is_none((NOUGHT, (0, 1), (1, 1)), X)
            self.is_none((board_plus(((3,),), ((), TWO)), (-BIG, 1), (BIG, 1)), X)
        for X in HALVES:
            self.is_one((PARABOLA, (0, 1), (1, 1)), X)
            self.is_none((PARABOLA, (-1, 1), (1, 1)), X)
            self.is_one((LINE, (0, 1), (1, 1)), X)
            self.is_none((LINE, (1, 2), (1, 1)), X)
            self.is_none((LINE, (0, 1), (1, 2)), X)
            self.is_none((((-1, 2), (-1, 2)), (-2, 1), (0, 1)), X)
        self.is_one((CIRCLE, (-1, 1), (1, 1)), (1, 1))
        self.is_one((((2,), (0, -2), (1,)), (1, 2), (3, 2)), (3, 2))
        self.is_none((((2,), (0, -2), (1,)), (1, 1), (3, 1)), (3, 2))

    def test_ends(self):
        for X in (ROOT, (1, 2)):
            self.is_none((line(1), (1, 1), (2, 1)), X)
            self.is_none((line(1), (0, 1), (1, 1)), X)
            self.is_none((line(1), (2, 1), (0, 1)), X)
            self.is_none((line(1), (1, 1), (1, 1)), X)
            self.is_none((times(line(0), line(1), line(2)), (0, 1), (3, 2)), X)
            self.is_none((times(line(0), line(1), line(2)), (0, 1), (2, 1)), X)
            self.is_one((times(line(0), line(1), line(2)), (1, 2), (3, 2)), X)
            for end in (None, 1, (2, 2), (1, 0), [1, 1], (1, True), ROOT, "low", (), Odd()):
                self.is_none((line(1), end, (2, 1)), X)
                self.is_none((line(1), (0, 1), end), X)

    def test_no_boards(self):
        for board in ((), ((5,),), None, 1, "x", [(-1,), (1,)], ((-1,), (1,), ()), ((-1, 0), (1,)), ([-1], (1,)),
                      ((-1,), (True,)), (-1, 1), (((-1,), (1,)),), Odd(), (Odd(),), ((-1,), Odd()), ((-1,), (1, 0))):
            for X in (ROOT, (1, 2)):
                self.is_none((board, (0, 1), (2, 1)), X)

    def test_other_tuples(self):
        for X in (ROOT, (1, 2)):
            self.is_none((line(1), (0, 1)), X)
            self.is_none((line(1), (0, 1), (2, 1), (3, 1)), X)
            self.is_none([line(1), (0, 1), (2, 1)], X)
            self.is_none(((-1, 1), (0, 1), (2, 1)), X)
            self.is_none(ROOT, X)

    def test_things_of_any_kind(self):
        for thing in things():
            self.is_none(thing, ROOT)
            self.is_none(thing, (1, 2))

    def test_no_place(self):
        for X in things() + NO_PLACES:
            for Y in ((0, 1), (line(1), (0, 1), (2, 1)), None, Odd()):
                with self.assertRaises(NoPlace):
                    is_height(Y, X)


class Heights(unittest.TestCase):

    def ends(self, Y):
        return (number(Y), number(Y)) if len(Y) == 2 else (number(Y[1]), number(Y[2]))

    def told(self, boards, X, roots):
        """roots: for each board its roots there, or None where it is nought."""
        answer = heights_of(boards, X)
        self.assertIs(type(answer), list)
        whole = sorted(set(root for some in roots if some is not None for root in some))
        self.assertEqual(len(answer), len(whole), (boards, X, answer))
        for Y, root in zip(answer, whole):
            self.is_right(Y, root, boards, X, roots)
        for one, other in zip(answer, answer[1:]):
            end, begin = self.ends(one)[1], self.ends(other)[0]
            self.assertTrue(end < begin or end == begin and len(one) == len(other) == 3, (one, other))
        return answer

    def is_right(self, Y, root, boards, X, roots):
        if len(Y) == 2:
            self.assertTrue(is_fraction(Y), Y)
            self.assertEqual(root, number(Y))
            return
        self.assertFalse(len(X) == 2 and isinstance(root, Surd) and root.b == 0, (X, Y))
        board, low, high = Y
        self.assertTrue(is_board(board) and is_fraction(low) and is_fraction(high), Y)
        self.assertIn(board, boards)
        self.assertTrue(is_height(Y, X))
        self.assertTrue(number(low) < root < number(high), (Y, root))
        own = roots[boards.index(board)]
        self.assertEqual([other for other in own if number(low) <= other <= number(high)], [root])

    def test_of_lines(self):
        for seed in range(25):
            sample = Sample(seed)
            for X, x in places():
                roots = [sample.roots(at, x) for at in range(len(sample.boards))]
                nought = [all(surds.value((row,), x, Surd(0)) == 0 for row in board) for board in sample.boards]
                self.told(sample.boards, X, [None if gone else some for some, gone in zip(roots, nought)])

    def test_without_any(self):
        for X, x in places():
            self.assertEqual(heights_of((), X), [])
            self.assertEqual(heights_of(((),), X), [])
            self.assertEqual(heights_of((((5,),), (), ((9, 0, 1),)), X), [])
            self.assertEqual(heights_of((((1,), (), (1,)), ((9, 0, 1),)), X), [])

    def test_nought_and_powers_that_go_out(self):
        r = Surd(0, 1)
        for X in ROOTS:
            self.told((NOUGHT, LINE), X, [None, [r]])
            self.told((NOUGHT,), X, [None])
            self.told((board_times(NOUGHT, line(1)), line(2)), X, [None, [Surd(2)]])
            self.told((board_plus(LINE, ((), (), TWO)), line(1)), X, [[r], [Surd(1)]])
            self.told((board_plus(((4,),), ((), TWO)), line(1)), X, [[], [Surd(1)]])
            self.told((times(LINE, ((-3, 2),)), times(LINE, LINE)), X, [[r], [r]])
        for X in HALVES:
            self.told((((-1, 2), (-1, 2)), LINE, ((), (-1, 2), (1,))), X, [None, [Surd(Fraction(1, 2))], [Surd(0)]])

    def test_shared_ones_are_told_once(self):
        r = Surd(0, 1)
        for X in ROOTS:
            # y = x, y^2 = 2, x y = 2, and 2 y - x^3, all with y = x above the root of 2.
            boards = (LINE, ((-2,), (), (1,)), ((-2,), (0, 1)), ((0, 0, 0, -1), (2,)))
            self.told(boards, X, [[r], [-1 * r, r], [r], [r]])
            self.told(boards[::-1], X, [[r], [r], [-1 * r, r], [r]])
            self.told((LINE, LINE), X, [[r], [r]])
            self.told((times(LINE, LINE), times(LINE, line(1))), X, [[r], [Surd(1), r]])
        for X in HALVES:
            self.told((LINE, line(Fraction(1, 2)), ((-1,), (), (4,))), X,
                      [[Surd(Fraction(1, 2))], [Surd(Fraction(1, 2))], [Surd(Fraction(-1, 2)), Surd(Fraction(1, 2))]])

    def test_roots_at_cuts(self):
        roots = [-8, -4, -2, -1, Fraction(-1, 2), 0, Fraction(1, 4), Fraction(1, 2), 1, 2, 3, 4]
        for X in (ROOT, HALVES[2], (1, 2)):
            sets = [roots[start:start + many] for many in (3, 5) for start in range(len(roots) - many + 1)]
            for some in sets + [[Fraction(-1, 2), 1, 2, 3], [Fraction(-1, 4), 1, 2, 4], [-2, Fraction(1, 4), 2, 3]]:
                self.told((times(*[line(root) for root in some]),), X, [[Surd(root) for root in some]])

    def test_near_ones(self):
        for near in (10 ** 6, 10 ** 15, BIG):
            for X, x in ((ROOT, Surd(0, 1)), ((1, 2), Surd(Fraction(1, 2))), (HALVES[2], Surd(Fraction(1, 2)))):
                a, b = line(Fraction(1, near), 1), line(Fraction(-1, near), 1)
                roots = [[Surd(Fraction(1, near)) + x], [Surd(Fraction(-1, near)) + x]]
                self.told((a, b), X, roots)
                self.told((b, LINE, a), X, [roots[1], [x], roots[0]])
                self.told((times(a, b),), X, [sorted(roots[0] + roots[1])])
                self.told((times(a, b), LINE), X, [sorted(roots[0] + roots[1]), [x]])
        # A fraction close by the square root of 2.
        for near in ((1414213562373095, 10 ** 15), (665857, 470832)):
            self.told((LINE, line(Fraction(*near))), ROOT, [[Surd(0, 1)], [Surd(Fraction(*near))]])

    def test_fractions_above_fractions(self):
        X = (2, 3)
        boards = (line(Fraction(1, BIG)), line(0, 1), ((-2,), (), (1,)), times(line(5), line(0, Fraction(1, 7))))
        answer = heights_of(boards, X)
        self.assertEqual([Y for Y in answer if len(Y) == 2],
                         [(1, BIG), pair(Fraction(2, 21)), (2, 3), (5, 1)])
        self.assertEqual([Y[0] for Y in answer if len(Y) == 3], [boards[2]] * 2)
        self.assertEqual(heights_of((CIRCLE,), (3, 5)), [(-4, 5), (4, 5)])
        self.assertEqual(heights_of((CIRCLE,), (1, 1)), [(0, 1)])
        self.assertEqual(heights_of((CIRCLE,), (2, 1)), [])

    def test_other_roots_above_fractions(self):
        r = Surd(0, 1)
        for boards in ((PARABOLA,), (PARABOLA, ((0, -3), (), (3,))), (PARABOLA, ((0, 0, -1), (), (2,)))):
            self.told(boards, (2, 1), [[-1 * r, r]] * len(boards))
        self.told((PARABOLA, line(Fraction(7, 5))), (2, 1), [[-1 * r, r], [Surd(Fraction(7, 5))]])
        self.told((times(PARABOLA, PARABOLA, LINE),), (2, 1), [[-1 * r, r, Surd(2)]])

    def test_heights_that_are_roots_of_roots(self):
        # The fourth root of 2 lies above the square root of 2.
        for X in ROOTS:
            answer = heights_of((PARABOLA, ((-2,), (), (), (), (1,)), LINE), X)
            self.assertEqual(len(answer), 3)
            for Y, signs in zip(answer, ((0, 0, -1), (0, 0, -1), (1, 1, 0))):
                told = [sign_above(f, X, Y) for f in (PARABOLA, ((-2,), (), (), (), (1,)), LINE)]
                self.assertEqual(told, list(signs))

    def test_the_list_is_the_askers_own(self):
        boards = (CIRCLE, LINE)
        first = heights_of(boards, (1, 2))
        heights_of(boards, (1, 2)).clear()
        self.assertEqual(heights_of(boards, (1, 2)), first)
        told = [Y for Y in first if len(Y) == 3][0]
        self.assertIsNot(told[0], CIRCLE)
        self.assertEqual(boards, (((-1, 0, 1), (), (1,)), ((0, -1), (1,))))

    def test_no_place(self):
        for X in things() + NO_PLACES:
            for boards in ((), (LINE,)):
                with self.assertRaises(NoPlace):
                    heights_of(boards, X)


class Signs(unittest.TestCase):

    def told(self, f, X, Y, expected):
        answer = sign_above(f, X, Y)
        self.assertTrue(is_whole(answer), answer)
        self.assertEqual(answer, expected, (f, X, Y))

    def test_at_fractions(self):
        self.told(CIRCLE, (3, 5), (4, 5), 0)
        self.told(CIRCLE, (3, 5), (3, 5), -1)
        self.told(CIRCLE, (3, 5), (1, 1), 1)
        self.told((), (3, 5), (1, 1), 0)
        self.told(((-2,),), (3, 5), (1, 1), -1)
        for X in HALVES:
            self.told(HYPERBOLA, X, (2, 1), 0)
            self.told(HYPERBOLA, X, (2 * BIG - 1, BIG), -1)
            self.told(HYPERBOLA, X, (2 * BIG + 1, BIG), 1)

    def test_above_roots_at_fractions(self):
        for X in ROOTS:
            self.told(((), (0, 0, 1), (-2,)), X, (1, 1), 0)
            self.told(LINE, X, (7, 5), -1)
            self.told(LINE, X, (17, 12), 1)
            self.told(NOUGHT, X, (17, 12), 0)
            self.told((), X, (17, 12), 0)
            self.told(((3,),), X, (17, 12), 1)

    def test_at_heights_of_lines(self):
        for seed in range(15):
            sample = Sample(seed)
            for X, x in places():
                for Y in heights_of(sample.boards, X):
                    root = [root for some in range(len(sample.boards)) for root in sample.roots(some, x)
                            if self.is_at(Y, root, some, sample)]
                    self.assertEqual(len(set(root)), 1, (sample.boards, X, Y))
                    for f in (*sample.boards, LINE, CIRCLE, HYPERBOLA, NOUGHT, line(0), line(-2, 1)):
                        self.told(f, X, Y, surds.value(f, x, root[0]).sign())

    def is_at(self, Y, root, some, sample):
        if len(Y) == 2:
            return root == number(Y)
        return sample.boards[some] == Y[0] and number(Y[1]) < root < number(Y[2])

    def test_heights_told_in_other_forms(self):
        forms = ((LINE, (1, 1), (2, 1)), (LINE, (0, 1), (BIG, 1)), (((-2,), (), (1,)), (0, 1), (9, 1)),
                 (times(LINE, LINE), (7, 5), (3, 2)), (times(LINE, LINE, LINE, line(3)), (-9, 1), (2, 1)),
                 (((2,), (0, -2), (1,)), (0, 1), (5, 1)), (board_plus(LINE, ((), (), (), TWO)), (1, 1), (2, 1)),
                 (times(LINE, ((1,), (), (1,))), (-5, 1), (5, 1)), (((-2,), (0, 1)), (1, 1), (3, 2)))
        r = Surd(0, 1)
        for X in ROOTS:
            for Y in forms:
                for f in (LINE, ((-2,), (), (1,)), ((-2,), (0, 1)), line(Fraction(7, 5)), line(Fraction(-17, 12), 2),
                          times(LINE, LINE), times(line(1, 1), LINE), NOUGHT, CIRCLE, ((-3,), (0, 1)), ((-1,), (0, 1)),
                          times(line(Fraction(1, BIG), 1), line(-1)), ((2,), (0, -2), (1,)), (), ((-1,),)):
                    self.told(f, X, Y, surds.value(f, r, r).sign())
        for X in HALVES:
            for Y in ((LINE, (0, 1), (1, 1)), (times(LINE, LINE), (0, 1), (1, 1)), (1, 2), (((-1,), (), (4,)), (0, 1), (3, 1))):
                for f in (LINE, line(Fraction(1, 2)), HYPERBOLA, CIRCLE, times(LINE, CIRCLE), ((-1, 2),), line(0, -1)):
                    self.told(f, X, Y, surds.value(f, Surd(Fraction(1, 2)), Surd(Fraction(1, 2))).sign())

    def test_near_noughts(self):
        near = Fraction(1, BIG)
        for X in ROOTS[:3]:
            Y = (LINE, (1, 1), (2, 1))
            self.told(line(near, 1), X, Y, -1)
            self.told(line(-near, 1), X, Y, 1)
            self.told(times(line(near, 1), line(near, 1)), X, Y, 1)

    def test_of_places_of_a_great_row(self):
        f = (-10 ** 12 + 1, 3, -10 ** 11, 7, 10 ** 12, -5, 123456789012, 1, 10 ** 12)
        for X in roots_of(f):
            Y = (LINE, *[end for end in X[1:]])
            self.told((f,), X, (0, 1), 0)
            self.told(((), f), X, (1, 1), 0)
            self.told(LINE, X, X[1], -1)
            self.assertTrue(is_height(Y, X))
            # The row with y in the place of x.
            self.told(tuple((n,) if n else () for n in f), X, Y, 0)
            small = finer(X, (1, 10 ** 20))
            self.told(line(number(small[1])), X, Y, 1)
            self.told(line(number(small[2])), X, Y, -1)

    def test_refused(self):
        for X in things() + NO_PLACES:
            for Y in ((0, 1), (0, 2), None):
                with self.assertRaises(NoPlace):
                    sign_above(LINE, X, Y)
        for X in (ROOT, (1, 2)):
            for Y in things() + [(2, 4), (CIRCLE, (-2, 1), (2, 1)), (LINE, (2, 1), (3, 1)), [LINE, (0, 1), (2, 1)],
                                 (NOUGHT, (0, 1), (1, 1)), ROOT]:
                for f in (LINE, ()):
                    with self.assertRaises(NoHeight):
                        sign_above(f, X, Y)

    def test_nothing_handed_in_is_changed(self):
        X, Y = ((4, 0, -4, 0, 1), (7, 5), (3, 2)), (((0, 0, 1), (0, -2), (1,)), (1, 1), (2, 1))
        sign_above(CIRCLE, X, Y)
        heights_of((CIRCLE, Y[0]), X)
        self.assertEqual(X, ((4, 0, -4, 0, 1), (7, 5), (3, 2)))
        self.assertEqual(Y, (((0, 0, 1), (0, -2), (1,)), (1, 1), (2, 1)))


if __name__ == "__main__":
    unittest.main()
