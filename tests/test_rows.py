"""Points 5 and 6: rows, put low, plain, and their slopes."""

import unittest
from fractions import Fraction

from kinds import is_fraction, is_plain, is_row
from naive import low, number, pair, product, random_row, seeded, trimmed, value
from planestacks.rows import plain_row, put_low, row_minus, row_plus, row_times, row_value, slope

SIZE = 10 ** 12


def sample():
    random = seeded(5)
    some = [(), (1,), (-1,), (0, 1), (0, 0, -3), (6, -4, 2), (-6, 4, -2), (SIZE,) * 9, (-SIZE,) * 9]
    some += [random_row(random, degree, size) for degree in range(9) for size in (1, 5, SIZE)]
    return some


class Reckoned(unittest.TestCase):

    def told(self, answer, expected):
        self.assertEqual(answer, tuple(expected))
        self.assertTrue(is_row(answer), answer)

    def test_by_hand(self):
        self.told(row_plus((1, 2), (3, 4, 5)), (4, 6, 5))
        self.told(row_minus((1, 2), (3, 4, 5)), (-2, -2, -5))
        self.told(row_times((1, 2), (3, 4, 5)), (3, 10, 13, 10))
        self.told(slope((7, 5, 0, 2)), (5, 0, 6))

    def test_last_numbers_that_go_out(self):
        self.told(row_plus((1, 2, 3), (1, 2, -3)), (2, 4))
        self.told(row_plus((1, 0, 3), (4, 0, -3)), (5,))
        self.told(row_plus((1, 2, 3), (-1, -2, -3)), ())
        self.told(row_minus((1, 2, 3), (0, 2, 3)), (1,))
        self.told(row_minus((1, 2, 3), (1, 2, 3)), ())
        self.told(row_minus((0, 0, SIZE), (1, 0, SIZE)), (-1,))

    def test_nought(self):
        for f in sample():
            self.told(row_plus((), f), f)
            self.told(row_plus(f, ()), f)
            self.told(row_minus(f, ()), f)
            self.told(row_minus((), f), [-n for n in f])
            self.told(row_times(f, ()), ())
            self.told(row_times((), f), ())

    def test_sums_and_differences(self):
        for f in sample():
            for g in sample():
                many = max(len(f), len(g))
                a, b = f + (0,) * (many - len(f)), g + (0,) * (many - len(g))
                self.told(row_plus(f, g), trimmed(m + n for m, n in zip(a, b)))
                self.told(row_minus(f, g), trimmed(m - n for m, n in zip(a, b)))

    def test_products(self):
        for f in sample():
            for g in sample():
                self.told(row_times(f, g), product(f, g))

    def test_slopes(self):
        for f in sample():
            self.told(slope(f), [k * n for k, n in enumerate(f)][1:])

    def test_slopes_of_numbers(self):
        self.told(slope(()), ())
        self.told(slope((7,)), ())


class Values(unittest.TestCase):

    def test_by_hand(self):
        self.assertEqual(row_value((1, 2, 3), (1, 2)), (11, 4))
        self.assertEqual(row_value((-2, 0, 1), (3, 2)), (1, 4))
        self.assertEqual(row_value((-1, 2), (1, 2)), (0, 1))
        self.assertEqual(row_value((5,), (-7, 3)), (5, 1))
        self.assertEqual(row_value((), (-7, 3)), (0, 1))

    def test_at_fractions_of_any_size(self):
        random = seeded(6)
        big = 10 ** 30 - 1
        spots = [Fraction(0), Fraction(1), Fraction(-1), Fraction(1, big), Fraction(-big, big - 1), Fraction(big)]
        spots += [Fraction(random.randint(-big, big), random.randint(1, big)) for _ in range(6)]
        for f in sample():
            for at in spots:
                answer = row_value(f, pair(at))
                self.assertTrue(is_fraction(answer), answer)
                self.assertEqual(number(answer), value(f, at), (f, at))


class PutLow(unittest.TestCase):

    def test_keeps_the_sign(self):
        self.assertEqual(put_low((6, -4, 2)), (3, -2, 1))
        self.assertEqual(put_low((-6, 4, -2)), (-3, 2, -1))
        self.assertEqual(put_low((0, 0, -3)), (0, 0, -1))

    def test_edges(self):
        self.assertEqual(put_low(()), ())
        self.assertEqual(put_low((7,)), (1,))
        self.assertEqual(put_low((-7,)), (-1,))
        self.assertEqual(put_low((1, 1)), (1, 1))
        self.assertEqual(put_low((SIZE, 0, 10 ** 6)), (10 ** 6, 0, 1))

    def test_of_some(self):
        for f in sample():
            for much in (1, 2, 6, 10 ** 40):
                answer = put_low(tuple(much * n for n in f))
                self.assertTrue(is_row(answer))
                self.assertEqual(answer, low(f))


class Plain(unittest.TestCase):

    def test_by_hand(self):
        self.assertEqual(plain_row((6, -4, 2)), (3, -2, 1))
        self.assertEqual(plain_row((-6, 4, -2)), (3, -2, 1))
        self.assertEqual(plain_row((5, 0, -5)), (-1, 0, 1))

    def test_edges(self):
        self.assertEqual(plain_row(()), ())
        self.assertEqual(plain_row((7,)), (1,))
        self.assertEqual(plain_row((-7,)), (1,))

    def test_of_some(self):
        for f in sample():
            answer = plain_row(f)
            self.assertTrue(is_plain(answer), answer)
            self.assertIn(low(f), (answer, tuple(-n for n in answer)))


class HandedIn(unittest.TestCase):

    def test_nothing_is_changed(self):
        f, g = (6, -4, 2), (-6, 4, 2)
        for ask in (row_plus, row_minus, row_times):
            ask(f, g)
        for ask in (slope, put_low, plain_row):
            ask(f)
        row_value(f, (1, 2))
        self.assertEqual((f, g), ((6, -4, 2), (-6, 4, 2)))

    def test_what_is_told_is_new(self):
        f = (3, -2, 1)
        for told in (row_plus(f, ()), row_minus(f, ()), put_low(f), plain_row(f)):
            self.assertEqual(told, f)
            self.assertIsNot(told, f)


if __name__ == "__main__":
    unittest.main()
