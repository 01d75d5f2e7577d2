"""What two rows share, where their numbers are as great as a prime that it is reckoned by, or greater."""

import unittest
from fractions import Fraction

from kinds import is_plain
from naive import product, seeded, with_roots
from planestacks.chains import count_between
from planestacks.divisors import bare_row, shared_by_rests, shared_row
from planestacks.moduli import PRIME_BITS, shared_by_primes
from planestacks.rows import plain_row, whole_quotient

PRIMES = [2 ** bits - 1 for bits in PRIME_BITS]


class Shared(unittest.TestCase):

    def told(self, f, g, expected):
        for one, other in ((f, g), (g, f)):
            answer = shared_row(one, other)
            self.assertTrue(is_plain(answer))
            self.assertEqual(answer, expected)

    def test_the_primes_are_primes(self):
        # Lucas: 2^p - 1, p a prime above 2, is one just where this comes to 0.
        for bits, prime in zip(PRIME_BITS, PRIMES):
            value = 4
            for _ in range(bits - 2):
                value = (value * value - 2) % prime
            self.assertEqual(value, 0)

    def test_by_primes_alone(self):
        for prime in PRIMES[:-1]:
            for shared in ((3, 1), (-3, 2), (prime // 2, 2), (-(prime // 2), 2), (prime, 1), (-5, prime * prime, 3)):
                f, g = product(shared, (1, 1)), product(shared, (2, 0, 1))
                self.assertEqual(shared_by_primes(f, g), shared)
                f, g = product(shared, (1, 6)), product(shared, (2, 0, 15))
                self.assertEqual(shared_by_primes(f, g), shared)

    def test_rows_alike_modulo_a_prime(self):
        for prime in PRIMES:
            self.told((-1, 1), (-1 - prime, 1), (1,))
            self.told((-1, 1), (prime - 1, 1), (1,))
            self.told(product((-1, 1), (3, 1)), product((-1 - prime, 1), (3, 1)), (3, 1))
            self.told(product((-1, 2), (3, 5)), product((-1 - prime, 2), (3, 5)), (3, 5))

    def test_last_numbers_that_a_prime_divides(self):
        for prime in PRIMES:
            self.told((1, prime), (1, prime), (1, prime))
            self.told((1, prime), (2, prime), (1,))
            self.told(product((1, prime), (-2, 0, 1)), product((3, prime), (-2, 0, 1)), (-2, 0, 1))
            self.told(product((1, prime), (-2, 0, 1)), product((-2, 0, 1), (1, 1)), (-2, 0, 1))

    def test_shared_rows_of_great_numbers(self):
        for prime in PRIMES:
            for shared in ((prime - 1, 1), (prime // 2, 1), (-(prime // 2), 1), (prime // 2 + 1, 1), (1, 7, prime + 2),
                           (-5, prime * prime, 3)):
                self.told(product(shared, (1, 1)), product(shared, (2, 0, 1)), shared)
                self.told(product(shared, (1, 3)), product(shared, (2, 3)), shared)

    def test_numbers_beyond_all_primes(self):
        shared = (3 * PRIMES[-1] ** 2, 5, 7)
        f, g = product(shared, (1, 1)), product(shared, (-1, 1))
        self.assertIsNone(shared_by_primes(f, g))
        self.told(f, g, shared)
        self.assertEqual(shared_by_rests(f, g), shared)
        self.assertEqual(bare_row(product(shared, shared)), shared)

    def test_by_rests_is_the_same(self):
        random = seeded(61)
        for _ in range(60):
            rows = [tuple(random.randint(-9, 9) for _ in range(random.randint(1, 4))) + (random.randint(1, 9),)
                    for _ in range(3)]
            f, g = product(rows[0], rows[1]), product(rows[0], rows[2])
            self.assertEqual(shared_row(f, g), shared_by_rests(f, g))
            self.assertEqual(shared_by_primes(plain_row(f), plain_row(g)), shared_by_rests(f, g))


class Quotients(unittest.TestCase):

    def test_whole_ones(self):
        self.assertEqual(whole_quotient((-1, 0, 1), (1, 1)), (-1, 1))
        self.assertEqual(whole_quotient((4, 6), (2,)), (2, 3))
        self.assertEqual(whole_quotient((), (2, 1)), ())
        self.assertEqual(whole_quotient((-4, -6), (2, 3)), (-2,))

    def test_none(self):
        self.assertIsNone(whole_quotient((1, 0, 1), (1, 1)))
        self.assertIsNone(whole_quotient((4, 5), (2,)))
        self.assertIsNone(whole_quotient((5, 4), (2,)))
        self.assertIsNone(whole_quotient((1, 1), (1, 0, 1)))


class RootsAtCuts(unittest.TestCase):

    def test_counted_all_the_same(self):
        for roots in ((0,), (0, 1), (0, Fraction(1, 2)), (0, Fraction(1, 2), Fraction(1, 4), Fraction(1, 8)),
                      (0, Fraction(-1, 2), Fraction(1, 2), 1, -1), tuple(range(-4, 5)),
                      tuple(Fraction(k, 8) for k in range(-7, 8))):
            f = with_roots(*roots)
            self.assertEqual(count_between(f, None, None), len(roots))
            for bound in (Fraction(17, 16), 2, 4, 5, 8, 16, Fraction(33, 10)):
                inside = [root for root in roots if abs(root) < bound]
                if not any(abs(root) == bound for root in roots):
                    bound = Fraction(bound)
                    low, high = (-bound.numerator, bound.denominator), (bound.numerator, bound.denominator)
                    self.assertEqual(count_between(f, low, high), len(inside))
                    self.assertEqual(count_between(f, None, high), len([r for r in roots if r < bound]))
                    self.assertEqual(count_between(f, low, None), len([r for r in roots if r > -bound]))

    def test_ends_far_beyond(self):
        f = with_roots(1, 2, 3)
        big = 10 ** 40
        self.assertEqual(count_between(f, (big, 1), None), 0)
        self.assertEqual(count_between(f, None, (-big, 1)), 0)
        self.assertEqual(count_between(f, (-big, 1), None), 3)
        self.assertEqual(count_between(f, None, (big, 3)), 3)
        self.assertEqual(count_between(f, (-big, 1), (big, 7)), 3)

    def test_roots_near_the_bound(self):
        # The greatest root is about 3.37, as near to 4 as the sizes of the numbers let it be.
        f = (-37, -21, -12, -7, 4)
        for low in ((1, 2), (0, 1), (2, 1), (3, 1), (33, 10)):
            self.assertEqual(count_between(f, low, None), 1)
            self.assertEqual(count_between(tuple(n * (-1) ** k for k, n in enumerate(f)), None, (-low[0], low[1])), 1)
        self.assertEqual(count_between(f, (17, 5), None), 0)

    def test_great_degrees(self):
        roots = [Fraction(k, 3) for k in range(-15, 16)]
        f = product(with_roots(*roots), (1, 0, 1), (5, 1, 1))
        self.assertEqual(count_between(f, None, None), 31)
        self.assertEqual(count_between(product(f, with_roots(0, 1)), (-1, 2), (1, 2)), 3)


if __name__ == "__main__":
    unittest.main()
