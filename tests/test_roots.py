"""Point 9: the roots of a row."""

import unittest
from fractions import Fraction
from math import isqrt

import naive
from kinds import is_fraction, is_plain
from naive import number, pair, product, random_row, seeded, with_roots
from planestacks.divisors import bare_row
from planestacks.errors import NoRow
from planestacks.roots import roots_of

SIZE = 10 ** 12
APART = Fraction(10 ** 60)


def ends_of(root):
    return (number(root), number(root)) if len(root) == 2 else (number(root[1]), number(root[2]))


class Roots(unittest.TestCase):

    def formed(self, f, root):
        """A fraction at which f is 0, or a tuple as the point tells it, with a root of f between."""
        if len(root) == 2:
            self.assertTrue(is_fraction(root), root)
            self.assertEqual(naive.value(f, number(root)), 0)
            return
        self.assertIs(type(root), tuple)
        h, low, high = root
        self.assertTrue(is_plain(h) and len(h) > 1, h)
        self.assertEqual(bare_row(h), h)
        self.assertTrue(is_fraction(low) and is_fraction(high), root)
        self.assertLess(number(low), number(high))
        self.assertLessEqual(number(high) - number(low), APART)
        self.assertNotEqual(naive.value(h, number(low)), 0)
        self.assertNotEqual(naive.value(h, number(high)), 0)
        self.assertEqual(naive.count(h, number(low), number(high)), 1)
        shared = naive.low(naive.chain(f, h)[-1])
        self.assertEqual(naive.count(shared, number(low), number(high)), 1, "its root is none of the row")

    def told(self, f, fractions, others):
        """The roots of f: these fractions, as such, in their order, and so many other ones."""
        roots = roots_of(f)
        self.assertIs(type(roots), list)
        for root in roots:
            self.formed(f, root)
        self.assertEqual([root for root in roots if len(root) == 2], [pair(x) for x in sorted(fractions)], f)
        self.assertEqual(len(roots), len(fractions) + others, f)
        self.rising(f, roots)

    def rising(self, f, roots):
        """With as many roots as there are, each once and rising: the n-th has n - 1 roots of the row below it."""
        end = naive.beyond(f) + APART
        for at, root in enumerate(roots):
            if len(root) == 2:
                cleared = naive.divide(f, with_roots(number(root)))
                while not cleared[1]:
                    left, cleared = cleared[0], naive.divide(cleared[0], with_roots(number(root)))
                self.assertEqual(naive.count(left, -end, number(root)) if len(left) > 1 else 0, at)
            else:
                self.assertEqual(self.below_tuple(f, root), at)

    def below_tuple(self, f, root):
        """How many roots of f lie below the root of a tuple: its ends are halved until they hold no other one."""
        h, low, high = root[0], *ends_of(root)
        while not (naive.value(f, low) and naive.value(f, high) and naive.count(f, low, high) == 1):
            cut = (low + high) / 2
            while not naive.value(h, cut):
                cut = (low + cut) / 2
            low, high = (low, cut) if naive.count(h, low, cut) else (cut, high)
        return naive.count(f, -naive.beyond(f) - APART, low)

    def test_fractions(self):
        self.told((-1, 0, 1), [-1, 1], 0)
        self.told((0, 1), [0], 0)
        self.told((0, -5), [0], 0)
        self.told((-1, 2), [Fraction(1, 2)], 0)
        self.told(with_roots(Fraction(1, 3), Fraction(-22, 7), 5), [Fraction(-22, 7), Fraction(1, 3), 5], 0)
        self.told(with_roots(*range(-4, 4)), list(range(-4, 4)), 0)

    def test_other_ones(self):
        self.told((-2, 0, 1), [], 2)
        self.told((2, 0, -1), [], 2)
        self.told((-2, 0, 0, 1), [], 1)
        self.told((1, 0, -10, 0, 1), [], 4)

    def test_both(self):
        self.told(product((-2, 0, 1), (-7, 5)), [Fraction(7, 5)], 2)
        self.told(product((-2, 0, 1), (-17, 12), (-41, 29)), [Fraction(17, 12), Fraction(41, 29)], 2)
        self.told(product((-3, 0, 0, 1), with_roots(0, Fraction(-1, 2), Fraction(3, 2))),
                  [Fraction(-1, 2), 0, Fraction(3, 2)], 1)
        self.told((0, -2, 0, 1), [0], 2)

    def test_none(self):
        self.told((1, 0, 1), [], 0)
        self.told((-1, 0, 0, 0, -3), [], 0)
        self.assertEqual(roots_of((5,)), [])
        self.assertEqual(roots_of((-SIZE,)), [])

    def test_taken_more_than_once(self):
        self.told((1, 2, 1), [-1], 0)
        self.told((0,) * 8 + (3,), [0], 0)
        self.told((4, 0, -4, 0, 1), [], 2)
        self.told(product(with_roots(2, 2, 2, Fraction(1, 2)), (-2, 0, 1), (-2, 0, 1)), [Fraction(1, 2), 2], 2)
        self.told((1, 0, 2, 0, 1), [], 0)

    def test_near_one_another(self):
        near = [Fraction(10 ** 6 + k, 10 ** 6) for k in (-1, 0, 1)]
        self.told(with_roots(*near), near, 0)
        # x^8 - 2 (10^6 x - 1)^2: two roots that are about 10^-30 apart.
        self.told((-2, 4 * 10 ** 6, -2 * SIZE, 0, 0, 0, 0, 0, 1), [], 4)
        # sqrt 2 and a fraction 10^-24 from it.
        top = isqrt(2 * SIZE ** 2)
        self.told(product((-2, 0, 1), (-top, SIZE)), [Fraction(top, SIZE)], 2)

    def test_great_numbers(self):
        self.told((-SIZE, 1), [SIZE], 0)
        self.told((-1, SIZE), [Fraction(1, SIZE)], 0)
        self.told((1 - SIZE, SIZE), [Fraction(SIZE - 1, SIZE)], 0)
        self.told((-SIZE, 0, 1), [-10 ** 6, 10 ** 6], 0)
        self.told((-SIZE, 0, SIZE - 1), [], 2)
        self.told((1, -SIZE, 1), [], 2)
        # The bottoms are great primes.
        fractions = [Fraction(-3, 999983), Fraction(999979, 999961)]
        self.told(with_roots(*fractions), fractions, 0)

    def test_great_rows(self):
        random = seeded(11)
        for degree in range(1, 9):
            f = random_row(random, degree, SIZE)
            end = naive.beyond(f)
            roots = roots_of(f)
            fractions = [number(root) for root in roots if len(root) == 2]
            self.told(f, fractions, naive.count(f, -end, end) - len(fractions))

    def test_small_rows(self):
        random = seeded(12)
        for _ in range(60):
            f = random_row(random, random.randint(1, 6), 6)
            tries = {Fraction(n, d) for n in range(-6, 7) for d in range(1, 7)}
            fractions = [x for x in tries if naive.value(f, x) == 0]
            end = naive.beyond(f)
            self.told(f, fractions, naive.count(f, -end, end) - len(fractions))

    def test_nought_is_refused(self):
        with self.assertRaises(NoRow):
            roots_of(())

    def test_the_list_is_the_askers_own(self):
        f = (0, -2, 0, 1)
        first = roots_of(f)
        again = list(first)
        first.clear()
        self.assertEqual(roots_of(f), again)
        self.assertEqual(f, (0, -2, 0, 1))


if __name__ == "__main__":
    unittest.main()
