"""Point 4: fractions."""

import unittest
from fractions import Fraction

from kinds import is_fraction
from naive import number, pair, seeded
from planestacks.errors import NoNumber
from planestacks.fractions import below, fraction, minus, over, plus, times

BIG = 10 ** 30 - 1
EDGES = ((0, 1), (1, 1), (-1, 1), (1, 2), (-1, 2), (2, 3), (-7, 5), (BIG, BIG - 1), (-BIG, BIG - 1),
         (1, BIG), (-1, BIG), (BIG, 1), (10 ** 29 + 1, 10 ** 29), (10 ** 29, 10 ** 29 + 1))


def sample():
    random = seeded(4)
    some = list(EDGES)
    for size in (5, 100, 10 ** 30 - 1):
        some += [pair(Fraction(random.randint(-size, size), random.randint(1, size))) for _ in range(12)]
    return some


class Made(unittest.TestCase):

    def told(self, top, bottom, expected):
        answer = fraction(top, bottom)
        self.assertEqual(answer, expected)
        self.assertTrue(is_fraction(answer), answer)

    def test_lowest_terms(self):
        self.told(6, 4, (3, 2))
        self.told(3, 2, (3, 2))
        self.told(12, 4, (3, 1))
        self.told(4, 12, (1, 3))

    def test_either_sign_above_and_below(self):
        self.told(-6, 4, (-3, 2))
        self.told(6, -4, (-3, 2))
        self.told(-6, -4, (3, 2))
        self.told(-5, 1, (-5, 1))
        self.told(5, -1, (-5, 1))

    def test_nought_is_one_below(self):
        for bottom in (1, 2, -1, -7, 10 ** 40):
            self.told(0, bottom, (0, 1))

    def test_numbers_of_any_size(self):
        # Two great primes: trying divisors would not end.
        one, other = 2 ** 521 - 1, 2 ** 607 - 1
        self.told(one * other, other * 6, (one, 6))
        self.told(-one * 10, -other * 15, (2 * one, 3 * other))
        self.told(10 ** 1000, -10 ** 999, (-10, 1))

    def test_all_small_ones(self):
        for top in range(-12, 13):
            for bottom in range(-12, 13):
                if bottom:
                    self.told(top, bottom, pair(Fraction(top, bottom)))

    def test_bottom_of_nought_is_refused(self):
        for top in (0, 1, -1, 10 ** 40):
            with self.assertRaises(NoNumber):
                fraction(top, 0)


class Reckoned(unittest.TestCase):

    def test_by_hand(self):
        self.assertEqual(plus((1, 2), (1, 3)), (5, 6))
        self.assertEqual(minus((1, 2), (1, 3)), (1, 6))
        self.assertEqual(times((2, 3), (-3, 4)), (-1, 2))
        self.assertEqual(over((2, 3), (-4, 3)), (-1, 2))
        self.assertEqual(plus((1, 2), (-1, 2)), (0, 1))
        self.assertEqual(minus((1, 6), (1, 6)), (0, 1))
        self.assertEqual(times((0, 1), (-3, 4)), (0, 1))
        self.assertEqual(over((0, 1), (-3, 4)), (0, 1))

    def agree(self, ours, theirs):
        for a in sample():
            for b in sample():
                answer = ours(a, b)
                self.assertTrue(is_fraction(answer), (a, b, answer))
                self.assertEqual(number(answer), theirs(number(a), number(b)), (a, b))

    def test_sums(self):
        self.agree(plus, lambda a, b: a + b)

    def test_differences(self):
        self.agree(minus, lambda a, b: a - b)

    def test_products(self):
        self.agree(times, lambda a, b: a * b)

    def test_quotients(self):
        for a in sample():
            for b in sample():
                if b[0]:
                    answer = over(a, b)
                    self.assertTrue(is_fraction(answer), (a, b, answer))
                    self.assertEqual(number(answer), number(a) / number(b))

    def test_division_by_nought_is_refused(self):
        for a in EDGES:
            with self.assertRaises(NoNumber):
                over(a, (0, 1))

    def test_below(self):
        for a in sample():
            for b in sample():
                self.assertIs(below(a, b), number(a) < number(b), (a, b))

    def test_below_of_near_ones(self):
        self.assertIs(below((BIG, BIG - 1), (BIG - 1, BIG - 2)), True)
        self.assertIs(below((BIG - 1, BIG - 2), (BIG, BIG - 1)), False)
        self.assertIs(below((-1, BIG), (0, 1)), True)
        self.assertIs(below((1, 3), (1, 3)), False)


if __name__ == "__main__":
    unittest.main()
