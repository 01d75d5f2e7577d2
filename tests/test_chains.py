"""Points 7 and 8: chains, their changes, and roots counted and weighed between two ends."""

import unittest
from fractions import Fraction

import naive
from kinds import is_row, is_whole
from naive import low, pair, product, random_row, seeded, with_roots
from planestacks.chains import chain_of, changes_at, count_between, weigh_between
from planestacks.errors import NoEnds, NoRow
from planestacks.rows import slope

SIZE = 10 ** 12
HALF, THIRD = Fraction(1, 2), Fraction(1, 3)


def sample():
    random = seeded(8)
    some = [(3,), (-3,), (0, 1), (-2, 0, 1), (2, 0, -1), (1, 0, 1), (1, 2, 1), (0, 0, 0, -1)]
    some += [random_row(random, degree, size) for degree in range(1, 9) for size in (3, SIZE)]
    return some


class Chains(unittest.TestCase):

    def told(self, f, g, expected):
        answer = chain_of(f, g)
        self.assertIs(type(answer), list)
        self.assertTrue(all(is_row(row) for row in answer), answer)
        self.assertEqual(answer, expected, (f, g))

    def test_by_hand(self):
        self.told((-2, 0, 1), (0, 2), [(-2, 0, 1), (0, 2), (1,)])
        self.told((2, 0, 1), (0, 2), [(2, 0, 1), (0, 2), (-1,)])
        self.told((1, 2, 1), (2, 2), [(1, 2, 1), (2, 2)])

    def test_the_first_two_are_as_they_were_handed_in(self):
        self.told((-6, 0, 3), (0, 4), [(-6, 0, 3), (0, 4), (1,)])
        self.told((4,), (6,), [(4,), (6,)])

    def test_with_nought(self):
        self.told((-6, 0, 3), (), [(-6, 0, 3)])
        self.told((5,), (), [(5,)])

    def test_a_longer_row_behind(self):
        self.told((4, 2), (0, 0, 1), [(4, 2), (0, 0, 1), (-2, -1), (-1,)])

    def test_of_some(self):
        for f in sample():
            for g in sample():
                expected = [f, g] + [low(row) for row in naive.chain(f, g)[2:]]
                self.told(f, g, expected)

    def test_of_nought_is_refused(self):
        for g in ((), (1,), (1, 2)):
            with self.assertRaises(NoRow):
                chain_of((), g)

    def test_the_list_is_the_askers_own(self):
        f, g = (-2, 0, 1), (0, 2)
        first = chain_of(f, g)
        self.assertIsNot(first[0], f)
        self.assertIsNot(first[1], g)
        first[0] = "x"
        first.append("y")
        self.assertEqual(chain_of(f, g), [(-2, 0, 1), (0, 2), (1,)])
        self.assertEqual((f, g), ((-2, 0, 1), (0, 2)))


class Changes(unittest.TestCase):

    def told(self, chain, at, expected):
        answer = changes_at(chain, at)
        self.assertTrue(is_whole(answer))
        self.assertEqual(answer, expected, (chain, at))

    def test_at_fractions(self):
        chain = chain_of((-2, 0, 1), (0, 2))
        for at, expected in (((-2, 1), 2), ((-1, 1), 1), ((1, 2), 1), ((3, 2), 0)):
            self.told(chain, at, expected)

    def test_noughts_are_left_out(self):
        chain = chain_of((-2, 0, 1), (0, 2))
        self.told(chain, (0, 1), 1)
        chain = chain_of((-1, 0, 1), (0, 2))
        self.told(chain, (-1, 1), 1)
        self.told(chain, (1, 1), 0)
        self.told([(0, 1), (1,), (0, 1)], (0, 1), 0)
        for at in ((0, 1), "low", "high"):
            self.told([(1,), (), (-1,)], at, 1)
            self.told([(1,), (), (1,)], at, 0)
            self.told([(-1,), (), (-1,)], at, 0)

    def test_low_and_high(self):
        self.told(chain_of((-2, 0, 1), (0, 2)), "low", 2)
        self.told(chain_of((-2, 0, 1), (0, 2)), "high", 0)
        self.told([(0, 1), (1,)], "low", 1)
        self.told([(0, 1), (1,)], "high", 0)
        self.told([(0, 0, 1), (0, 1), (0, 0, 0, -1), (-1,)], "low", 3)
        self.told([(0, 0, 1), (0, 1), (0, 0, 0, -1), (-1,)], "high", 1)

    def test_none_of_a_row_alone(self):
        for at in ((7, 3), "low", "high"):
            self.told([(-2, 0, 1)], at, 0)
            self.told([], at, 0)

    def test_of_some(self):
        spots = [Fraction(0), Fraction(-7, 3), Fraction(5, 2), Fraction(10 ** 30 - 1, 10 ** 29 + 7)]
        for f in sample():
            chain = chain_of(f, slope(f))
            end = max(naive.beyond(row) for row in chain)
            for at in spots:
                self.told(chain, pair(at), naive.changes(chain, at))
            self.told(chain, "low", naive.changes(chain, -end))
            self.told(chain, "high", naive.changes(chain, end))

    def test_the_chain_is_not_changed(self):
        chain = [(-2, 0, 1), (), (0, 2)]
        changes_at(chain, (1, 2))
        changes_at(chain, "low")
        self.assertEqual(chain, [(-2, 0, 1), (), (0, 2)])


class Counted(unittest.TestCase):

    def told(self, f, ends, expected):
        answer = count_between(f, *ends)
        self.assertTrue(is_whole(answer))
        self.assertEqual(answer, expected, (f, ends))

    def test_between_two(self):
        f = (-2, 0, 1)
        self.told(f, ((-2, 1), (2, 1)), 2)
        self.told(f, ((0, 1), (2, 1)), 1)
        self.told(f, ((-1, 1), (1, 1)), 0)
        self.told(f, ((3, 2), (10 ** 30, 1)), 0)

    def test_without_ends(self):
        f = (-2, 0, 1)
        self.told(f, (None, None), 2)
        self.told(f, (None, (0, 1)), 1)
        self.told(f, ((0, 1), None), 1)
        self.told(f, (None, (-2, 1)), 0)
        self.told(f, ((2, 1), None), 0)

    def test_numbers_have_none(self):
        for f in ((4,), (-4,)):
            for ends in ((None, None), ((0, 1), None), (None, (0, 1)), ((0, 1), (1, 1))):
                self.told(f, ends, 0)

    def test_roots_taken_more_than_once_count_once(self):
        f = product(with_roots(1, 1, 1, HALF, HALF, -3), (-2, 0, 1), (-2, 0, 1))
        self.told(f, (None, None), 5)
        self.told(f, ((0, 1), (1414, 1000)), 2)
        self.told(f, ((0, 1), (1415, 1000)), 3)
        self.told((1, 0, 2, 0, 1), (None, None), 0)

    def test_of_some(self):
        for f in sample():
            end = naive.beyond(f)
            self.told(f, (None, None), naive.count(f, -end, end))
            for first, last in ((-1, 1), (0, 2), (-SIZE, THIRD)):
                if naive.value(f, first) and naive.value(f, last):
                    self.told(f, (pair(first), pair(last)), naive.count(f, first, last))

    def test_near_roots(self):
        f = with_roots(Fraction(10 ** 5 + 1, 10 ** 5), Fraction(10 ** 6 + 1, 10 ** 6))
        self.told(f, ((1, 1), (2, 1)), 2)
        self.told(f, ((1, 1), (2000011, 2000000)), 1)

    def test_refused(self):
        f = (-1, 0, 1)
        for ends in (((1, 2), (1, 2)), ((1, 2), (1, 3)), ((2, 1), (-2, 1)), ((1, 1), (2, 1)), ((0, 1), (1, 1)),
                     ((-1, 1), (1, 1)), ((-1, 1), None), (None, (1, 1)), ((1, 1), (1, 1))):
            with self.assertRaises(NoEnds):
                count_between(f, *ends)
            with self.assertRaises(NoEnds):
                weigh_between(f, (1, 1), *ends)
        with self.assertRaises(NoEnds):
            count_between((5,), (1, 1), (1, 1))

    def test_nought_is_refused_first(self):
        for ends in ((None, None), ((0, 1), (1, 1)), ((1, 1), (0, 1)), ((1, 1), None)):
            with self.assertRaises(NoRow):
                count_between((), *ends)
            for g in ((), (1,), (0, 1)):
                with self.assertRaises(NoRow):
                    weigh_between((), g, *ends)


class Weighed(unittest.TestCase):

    def told(self, f, g, ends, expected):
        answer = weigh_between(f, g, *ends)
        self.assertTrue(is_whole(answer))
        self.assertEqual(answer, expected, (f, g, ends))

    def test_by_hand(self):
        f = (-2, 0, 1)
        self.told(f, (0, 1), (None, None), 0)
        self.told(f, (0, 1), ((0, 1), None), 1)
        self.told(f, (0, 1), (None, (0, 1)), -1)
        self.told(f, (0, 0, 1), (None, None), 2)
        self.told(f, (-1,), ((-2, 1), (2, 1)), -2)
        self.told(f, (-3, 2), ((0, 1), (2, 1)), -1)
        self.told(f, (), (None, None), 0)
        self.told(f, (-4, 0, 2), (None, None), 0)
        self.told((7,), (0, 1), (None, None), 0)

    def test_fractions_for_roots(self):
        random = seeded(9)
        spots = [Fraction(n, d) for n in range(-6, 7) for d in (1, 2, 3)]
        weights = [(), (1,), (-5,), (0, 1), (-1, 2), (1, -3), (-2, 0, 1), (4, 0, -9), (0, 0, 0, -1, 0, 1)]
        for _ in range(30):
            roots = [random.choice(spots) for _ in range(random.randint(1, 6))]
            f = product((random.choice((-7, 3)),), with_roots(*roots))
            for g in weights:
                for first, last in ((-3, 3), (None, None), (None, HALF), (Fraction(-1, 7), None)):
                    if first in roots or last in roots:
                        continue
                    inside = [x for x in set(roots)
                              if (first is None or first < x) and (last is None or x < last)]
                    values = [naive.value(g, x) for x in inside]
                    expected = sum(v > 0 for v in values) - sum(v < 0 for v in values)
                    ends = [None if end is None else pair(end) for end in (first, last)]
                    self.told(f, g, ends, expected)

    def test_great_rows(self):
        random = seeded(10)
        for degree in range(1, 9):
            f, g = random_row(random, degree, SIZE), random_row(random, 8, SIZE)
            above = weigh_between(f, product(g, g), None, None)
            self.assertEqual(above, count_between(f, None, None))
            self.told(f, tuple(-n for n in g), (None, None), -weigh_between(f, g, None, None))


if __name__ == "__main__":
    unittest.main()
