"""Point 6: rests, shared rows, bare rows, quotients."""

import unittest

from kinds import is_plain, is_row
from naive import divide, low, product, random_row, seeded
from planestacks.divisors import bare_row, quotient_of, rest_of, shared_row
from planestacks.errors import NoRow
from planestacks.rows import plain_row, put_low

SIZE = 10 ** 12


def sample():
    random = seeded(7)
    some = [(1,), (-4,), (0, 1), (0, -2), (-1, 0, 1), (2, 0, -2), (1, 2, 1), (-2, 0, 1), (0, 0, 0, 5)]
    some += [random_row(random, degree, size) for degree in range(1, 9) for size in (3, SIZE)]
    return some


class Rests(unittest.TestCase):

    def told(self, f, g, expected):
        answer = rest_of(f, g)
        self.assertTrue(is_row(answer), answer)
        self.assertEqual(answer, expected, (f, g))

    def test_by_hand(self):
        # x^2 + 1 by x - 1 leaves 2.
        self.told((1, 0, 1), (-1, 1), (1,))
        # x^3 by 2 x^2 + 1 leaves -x / 2.
        self.told((0, 0, 0, 1), (1, 0, 2), (0, -1))

    def test_the_sign_is_that_over_fractions(self):
        # x^2 - 2 by -x leaves -2, by x too.
        self.told((-2, 0, 1), (0, -1), (-1,))
        self.told((-2, 0, 1), (0, 1), (-1,))
        self.told((-2, 0, -1), (0, -3), (-1,))
        self.told((2, 0, -1), (0, -3), (1,))
        # x^2 by 1 - 2 x leaves 1 / 4, by -3 - 5 x 9 / 25.
        self.told((0, 0, 1), (1, -2), (1,))
        self.told((0, 0, -1), (-3, -5), (-1,))

    def test_edges(self):
        self.told((), (3,), ())
        self.told((), (1, 1), ())
        self.told((4, 5, 6), (7,), ())
        self.told((4, 6), (1, 1, 1), (2, 3))
        self.told((-4, -6), (1, 1, 1), (-2, -3))
        self.told((7,), (0, 1), (1,))
        self.told((-1, 0, 1), (1, 1), ())

    def test_of_some(self):
        for f in sample():
            for g in sample():
                self.told(f, g, low(divide(f, g)[1]))

    def test_by_nought_is_refused(self):
        for f in ((), (1,), (1, 2, 3)):
            with self.assertRaises(NoRow):
                rest_of(f, ())


class Quotients(unittest.TestCase):

    def told(self, f, g, expected):
        answer = quotient_of(f, g)
        self.assertTrue(is_row(answer), answer)
        self.assertEqual(answer, expected, (f, g))

    def test_by_hand(self):
        self.told((-1, 0, 1), (1, 1), (-1, 1))
        self.told((-3, 0, 3), (2, 2), (-1, 1))
        self.told((-3, 0, 3), (-2, -2), (1, -1))
        self.told((1, 2, 1), (1, 1), (1, 1))

    def test_edges(self):
        self.told((), (1, 1), ())
        self.told((), (-3,), ())
        self.told((4, 6), (-5,), (-2, -3))
        self.told((-4, -6), (-5,), (2, 3))
        self.told((4,), (8,), (1,))
        self.told((2, 3), (4, 6), (1,))
        self.told((2, 3), (-4, -6), (-1,))

    def test_of_products(self):
        for f in sample():
            for g in sample():
                self.told(product(f, g), g, put_low(f))

    def test_by_nought_is_refused(self):
        for f in ((), (1,), (1, 2, 3)):
            with self.assertRaises(NoRow):
                quotient_of(f, ())

    def test_what_does_not_divide_is_refused(self):
        for f, g in (((1, 0, 1), (1, 1)), ((1,), (0, 1)), ((1, 1), (1, 1, 1)), ((1, 2, 1), (2, 1)),
                     ((-2, 0, SIZE), (0, 1))):
            with self.assertRaises(NoRow):
                quotient_of(f, g)

    def test_just_the_rows_that_leave_nothing_divide(self):
        for f in sample():
            for g in sample():
                quotient, rest = divide(f, g)
                if rest:
                    with self.assertRaises(NoRow):
                        quotient_of(f, g)
                else:
                    self.told(f, g, low(quotient))


class Shared(unittest.TestCase):

    def told(self, f, g, expected):
        answer = shared_row(f, g)
        self.assertTrue(is_plain(answer), answer)
        self.assertEqual(answer, expected, (f, g))

    def test_by_hand(self):
        self.told((-1, 0, 1), (1, 2, 1), (1, 1))
        self.told((2, 0, -2), (-3, -6, -3), (1, 1))
        self.told((-2, 0, 1), (-1, 1), (1,))
        self.told((0, 0, 4), (0, 0, 0, 6), (0, 0, 1))

    def test_edges(self):
        self.told((), (), ())
        self.told((-4, -6), (), (2, 3))
        self.told((), (-4, -6), (2, 3))
        self.told((5,), (), (1,))
        self.told((), (-5,), (1,))
        self.told((4,), (6,), (1,))
        self.told((4,), (6, 8), (1,))
        self.told((4, 6), (4, 6), (2, 3))

    def test_of_products(self):
        for f in sample():
            for g in sample():
                shared = shared_row(f, g)
                for common in ((-5,), (3, -2), (-2, 0, 1), (SIZE, 1, -SIZE)):
                    self.told(product(f, common), product(g, common), plain_row(product(shared, common)))

    def test_it_divides_both_and_leaves_nothing_shared(self):
        for f in sample():
            for g in sample():
                shared = shared_row(f, g)
                self.assertEqual(divide(f, shared)[1], [])
                self.assertEqual(divide(g, shared)[1], [])
                self.assertEqual(shared_row(quotient_of(f, shared), quotient_of(g, shared)), (1,))


class Bare(unittest.TestCase):

    def told(self, f, expected):
        answer = bare_row(f)
        self.assertTrue(is_plain(answer), answer)
        self.assertEqual(answer, expected, f)

    def test_by_hand(self):
        self.told((1, 2, 1), (1, 1))
        self.told((0, 0, 0, -5), (0, 1))
        self.told((-2, 0, 1), (-2, 0, 1))
        self.told((4, 0, -2), (-2, 0, 1))
        # (x - 1)^2 (x + 2)^3
        self.told(product((-1, 1), (-1, 1), (2, 1), (2, 1), (2, 1)), (-2, 1, 1))
        # (x^2 + 1)^2, roots or not
        self.told((1, 0, 2, 0, 1), (1, 0, 1))

    def test_of_numbers(self):
        self.told((1,), (1,))
        self.told((-1,), (1,))
        self.told((SIZE,), (1,))

    def test_of_powers(self):
        parts = ((-3, 7), (SIZE, 1), (-2, 0, 1), (1, 1, 1), (5, -SIZE, 0, 3))
        for one in parts:
            for other in parts:
                if one != other:
                    expected = plain_row(product(one, other))
                    self.told(product(one, other), expected)
                    self.told(product((-6,), one, one, other), expected)
                    self.told(product(one, one, other, other, other), expected)

    def test_of_nought_is_refused(self):
        with self.assertRaises(NoRow):
            bare_row(())


class HandedIn(unittest.TestCase):

    def test_nothing_is_changed(self):
        f, g = (2, 4, 2), (-1, -1)
        for ask in (rest_of, shared_row, quotient_of):
            ask(f, g)
        bare_row(f)
        self.assertEqual((f, g), ((2, 4, 2), (-1, -1)))


if __name__ == "__main__":
    unittest.main()
