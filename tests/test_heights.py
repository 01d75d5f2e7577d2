"""Heights as objects: which are one number, also where one's ends hold what the other one's board shares elsewhere."""

import unittest
from fractions import Fraction

from naive import pair, seeded
from planestacks.heights import Height, is_apart, is_same, order_of_heights
from planestacks.spots import Spot, bounds_along, halve, is_exact, sign_there
from surds import TWO, line, times

ROOT = (TWO, (1, 1), (2, 1))


def height(spot, board, low, high):
    return Height(spot, board, board, (low, high))


class Same(unittest.TestCase):

    def test_what_is_shared_elsewhere(self):
        one, other = times(line(1), line(3)), times(line(3), line(5))
        for X in ((0, 1), ROOT):
            spot = Spot(X, {})
            low = height(spot, one, (0, 1), (2, 1))
            self.assertFalse(is_same(low, height(spot, other, (3, 2), (4, 1))))
            self.assertFalse(is_same(height(spot, other, (3, 2), (4, 1)), low))
            self.assertTrue(is_same(height(spot, one, (2, 1), (7, 2)), height(spot, other, (5, 2), (4, 1))))
            self.assertTrue(is_same(height(spot, other, (5, 2), (4, 1)), height(spot, one, (2, 1), (7, 2))))
            self.assertTrue(is_same(height(spot, other, (5, 2), (7, 2)), height(spot, one, (2, 1), (4, 1))))
            third, fourth = times(line(1), line(3)), times(line(1), line(-1))
            high = height(spot, third, (3, 2), (4, 1))
            self.assertFalse(is_same(high, height(spot, fourth, (0, 1), (2, 1))))
            self.assertFalse(is_same(height(spot, fourth, (0, 1), (2, 1)), high))

    def test_ends_of_many_bottoms(self):
        random = seeded(63)
        roots = [Fraction(k, 7) for k in range(-4, 5)]
        for _ in range(400):
            spot = Spot((0, 1), {})
            both = []
            for k in range(2):
                some = random.sample(roots, 3)
                gap = min(abs(root - some[0]) for root in some[1:])
                ends = [some[0] + side * gap * Fraction(random.randint(1, 99), 100) for side in (-1, 1)]
                both.append((some[0], height(spot, times(*[line(root) for root in some]), *[pair(end) for end in ends])))
            (first, one), (second, other) = both
            if not is_apart(one, other) and not is_apart(other, one):
                self.assertEqual(is_same(one, other), first == second)
                self.assertEqual(is_same(other, one), first == second)
            self.assertEqual(order_of_heights(one, other), (first > second) - (first < second))

    def test_fractions_among_them(self):
        spot = Spot(ROOT, {})
        one = height(spot, line(3), (3, 1), (3, 1))
        self.assertTrue(is_same(one, height(spot, times(line(3), line(7)), (0, 1), (5, 1))))
        self.assertTrue(is_same(height(spot, times(line(3), line(7)), (0, 1), (5, 1)), one))
        self.assertTrue(is_same(one, height(spot, line(3), (3, 1), (3, 1))))
        self.assertFalse(is_same(one, height(spot, line(4), (0, 1), (5, 1))))
        self.assertFalse(is_same(height(spot, line(4), (0, 1), (5, 1)), one))

    def test_order(self):
        for X in ((0, 1), ROOT):
            boards = (line(1), line(2), times(line(1), line(5)))
            for one, other, expected in ((0, 1, -1), (1, 0, 1), (0, 2, 0), (2, 0, 0), (2, 1, -1), (1, 2, 1)):
                spot = Spot(X, {})
                a, b = height(spot, boards[one], (0, 1), (9, 2)), height(spot, boards[other], (0, 1), (9, 2))
                self.assertEqual(order_of_heights(a, b), expected)
                if expected:
                    self.assertTrue(is_apart(a, b) if expected < 0 else is_apart(b, a))

    def test_apart(self):
        spot = Spot((0, 1), {})
        low, high = height(spot, line(1), (0, 1), (2, 1)), height(spot, line(3), (2, 1), (4, 1))
        self.assertTrue(is_apart(low, high))
        self.assertFalse(is_apart(high, low))
        at = height(spot, line(2), (2, 1), (2, 1))
        self.assertFalse(is_apart(low, at))
        self.assertFalse(is_apart(at, high))
        self.assertTrue(is_apart(at, height(spot, line(3), (5, 2), (4, 1))))
        self.assertFalse(is_apart(height(spot, line(1), (0, 1), (5, 2)), high))


class Bounds(unittest.TestCase):

    def test_the_value_lies_between(self):
        # Rows that are 0 at the square roots of 2.
        for halvings in (0, 1, 5, 60, 300):
            for X in (ROOT, (TWO, (-2, 1), (-1, 1)), (TWO, (1, 3), (10 ** 40, 7))):
                spot = Spot(X, {})
                halve(spot, halvings)
                for row in ((-20, 0, 10), (4, 0, -4, 0, 1), (0, 2, 0, -1), (-8, 0, 0, 0, 2)):
                    least, most = bounds_along([(n, n) for n in row], spot)
                    self.assertLessEqual(least, 0)
                    self.assertGreaterEqual(most, 0)
                least, most = bounds_along([(-20, -20), (0, 0), (10, 11)], spot)
                self.assertLessEqual(least, 0)
                self.assertGreater(most, 0)
                if halvings == 300:
                    least, most = bounds_along([(1 - 20 * 10 ** 40, 1 - 20 * 10 ** 40), (0, 0), (10 ** 41, 10 ** 41)], spot)
                    self.assertGreater(least, 0)

    def test_exact_ones(self):
        spot = Spot((-2, 3), {})
        self.assertEqual(bounds_along([(1, 1), (2, 2), (3, 3)], spot), (9, 9))
        self.assertEqual(bounds_along([(1, 1), (2, 3)], spot), (-3, -1))
        self.assertTrue(is_exact(spot))

    def test_a_row_that_becomes_a_line(self):
        # The spot's row has the fraction 1/2 and the root of 2; once a row is 0 at 1/2 the spot is known.
        spot = Spot(((2, -4, -1, 2), (1, 5), (1, 1)), {})
        self.assertEqual(sign_there((-1, 2), spot), 0)
        self.assertTrue(is_exact(spot))
        self.assertEqual(sign_there((-1, 3), spot), 1)
        spot = Spot(((2, -4, -1, 2), (1, 1), (9, 5)), {})
        self.assertEqual(sign_there((-2, 0, 1), spot), 0)
        self.assertEqual(spot.row, (-2, 0, 1))
        self.assertEqual(sign_there((-1, 2), spot), 1)


if __name__ == "__main__":
    unittest.main()
