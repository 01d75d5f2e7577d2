"""Point 10: places on the line."""

import unittest
from fractions import Fraction

import naive
from kinds import Odd, is_fraction, is_whole, things
from naive import number, pair, product, random_row, seeded, with_roots
from planestacks.errors import NoEnds, NoPlace
from planestacks.places import finer, is_place, order_of, place_between, sign_at
from planestacks.roots import roots_of

SIZE = 10 ** 12
BIG = 10 ** 30 - 1
TWO = (-2, 0, 1)
ROOT = (TWO, (1, 1), (2, 1))
MINUS_ROOT = (TWO, (-2, 1), (-1, 1))

# Rows of numbers in rising order, each number told in several ways.
SAME = (
    (MINUS_ROOT, ((2, 0, -1), (-10 ** 30, 1), (0, 1)), (product(TWO, TWO, TWO), (-3, 2), (-7, 5))),
    ((-7, 5), (with_roots(Fraction(-7, 5)), (-2, 1), (0, 1))),
    ((0, 1), ((0, 1), (-1, 1), (1, 1)), ((0, 0, -3), (-1, 7), (BIG, 1)), ((0, 0, 0, 1, 1), (-1, 2), (1, 2))),
    ((1, BIG), (with_roots(Fraction(1, BIG), 5), (0, 1), (1, 1))),
    ((7, 5), (product(TWO, (-7, 5)), (1, 1), (1407, 1000)), (with_roots(Fraction(7, 5), Fraction(7, 5)), (1, 1), (3, 2))),
    (ROOT, ((-2, 0, 1), (0, 1), (BIG, 1)), ((4, 0, -4, 0, 1), (7, 5), (3, 2)),
     (product(TWO, TWO, TWO, TWO, (-3, 2), (-5, 3)), (0, 1), (29, 20)),
     (product(TWO, (-7, 5), (-17, 12)), (141, 100), (283, 200)), (product(TWO, (-3, 0, 1)), (1, 1), (3, 2))),
    ((17, 12), ((-17, 12), (0, 1), (2, 1))),
    ((3, 2), ((-9, 0, 4), (1, 1), (2, 1))),
    (((-3, 0, 1), (1, 1), (2, 1)), (product(TWO, (-3, 0, 1)), (3, 2), (2, 1))),
    ((BIG, 1), (with_roots(BIG, BIG), (BIG - 1, 1), (BIG + 1, 1))),
)
PLACES = [place for places in SAME for place in places]


def inside(place, at):
    """Whether a fraction lies strictly between a tuple's ends."""
    return number(place[1]) < at < number(place[2])


class WhatIsOne(unittest.TestCase):

    def is_one(self, thing):
        self.assertIs(is_place(thing), True, thing)

    def is_none(self, thing):
        self.assertIs(is_place(thing), False, thing)

    def test_fractions(self):
        for thing in ((0, 1), (1, 1), (-1, 1), (1, 2), (-7, 5), (BIG, BIG - 1), (10 ** 100, 1), (-1, 10 ** 100)):
            self.is_one(thing)

    def test_no_fractions(self):
        for thing in ((0, 2), (2, 4), (1, 0), (0, 0), (1, -2), (0, -1), (-1, -1), (True, 1), (1, True), (False, True),
                      ("1", 2), (1, "2"), (1, None), [1, 2], (1, 2, 3), (1,), ((1, 1), 1), ((1, 1), (1, 1)),
                      (BIG * 3, (BIG - 1) * 3)):
            self.is_none(thing)

    def test_tuples(self):
        for thing in PLACES:
            self.is_one(thing)
        self.is_one(((0, 5), (-1, 3), (1, 3)))
        self.is_one(((0, -5), (-1, 3), (1, 3)))
        self.is_one((tuple(4 * n for n in TWO), (1, 1), (2, 1)))

    def test_too_many_or_no_roots_between(self):
        self.is_none((TWO, (-2, 1), (2, 1)))
        self.is_none((TWO, (-1, 1), (1, 1)))
        self.is_none((TWO, (2, 1), (3, 1)))
        self.is_none(((1, 0, 1), (-1, 1), (1, 1)))
        self.is_none((with_roots(0, 0, 1, 1), (-1, 1), (2, 1)))
        self.is_none((with_roots(Fraction(1, BIG), 0), (-1, 1), (1, 1)))

    def test_roots_at_the_ends(self):
        f = with_roots(0, 1, 2)
        self.is_none((f, (0, 1), (3, 2)))
        self.is_none((f, (1, 2), (2, 1)))
        self.is_none((f, (0, 1), (2, 1)))
        self.is_one((f, (1, 2), (3, 2)))

    def test_ends_that_do_not_rise(self):
        self.is_none((TWO, (2, 1), (1, 1)))
        self.is_none((TWO, (1, 1), (1, 1)))
        self.is_none((with_roots(1), (1, 1), (1, 1)))

    def test_no_rows(self):
        for f in ((), (1,), (0,), (-2, 0, 1, 0), (0, 0), [-2, 0, 1], (-2, False, 1), (-2, 0, True), (-2, 0, "1"),
                  (-2, None, 1), ((-2,), (0,), (1,)), "ab", None, 5, {}, Odd(), (Odd(), 1), (1, Odd())):
            self.is_none((f, (1, 1), (2, 1)))

    def test_no_ends(self):
        for end in (None, 1, (2, 2), (1, 0), [1, 1], (1, True), (True, 1), ROOT, "low", (), (1,), Odd()):
            self.is_none((TWO, end, (2, 1)))
            self.is_none((TWO, (1, 1), end))

    def test_tuples_of_other_lengths(self):
        self.is_none((TWO, (1, 1)))
        self.is_none((TWO, (1, 1), (2, 1), (3, 1)))
        self.is_none([TWO, (1, 1), (2, 1)])
        self.is_none((ROOT,))

    def test_things_of_any_kind(self):
        for thing in things():
            self.is_none(thing)

    def test_rows_of_any_size(self):
        # The one root from 3/2 on is greater than the others, whatever they are taken.
        f = product(*[with_roots(Fraction(k, 10)) for k in range(10)] * 3, TWO, TWO, (-10 ** 50, 10 ** 49 * 3))
        self.is_one((f, (3, 2), (4, 1)))
        self.is_one((f, (1, 1), (3, 2)))
        self.is_none((f, (1, 1), (4, 1)))


class Refused(unittest.TestCase):

    def test_no_place(self):
        wrong = things() + [(2, 4), (TWO, (-2, 1), (2, 1)), (TWO, (2, 1), (3, 1)), ((-2, 0, 1, 0), (1, 1), (2, 1)),
                            [TWO, (1, 1), (2, 1)], (True, 1), (with_roots(1, 2), (1, 1), (3, 1))]
        for thing in wrong:
            asked = [lambda: sign_at((0, 1), thing), lambda: sign_at((), thing), lambda: order_of(thing, (0, 1)),
                     lambda: order_of(ROOT, thing), lambda: order_of(thing, thing), lambda: finer(thing, (1, 2))]
            if thing is not None:
                asked += [lambda: place_between(thing, None), lambda: place_between(None, thing),
                          lambda: place_between(thing, ROOT), lambda: place_between(ROOT, thing)]
            for ask in asked:
                with self.assertRaises(NoPlace):
                    ask()

    def test_no_place_comes_first(self):
        with self.assertRaises(NoPlace):
            place_between((9, 1), (2, 4))
        with self.assertRaises(NoPlace):
            place_between((2, 4), (0, 1))


class Signs(unittest.TestCase):

    def told(self, f, place, expected):
        answer = sign_at(f, place)
        self.assertTrue(is_whole(answer), answer)
        self.assertEqual(answer, expected, (f, place))

    def test_at_fractions(self):
        for f, place, expected in (((-1, 2), (1, 2), 0), ((-1, 2), (0, 1), -1), ((-1, 2), (1, 1), 1),
                                   ((), (5, 3), 0), ((-4,), (5, 3), -1), ((4,), (5, 3), 1),
                                   (TWO, (BIG, 1), 1), (TWO, (7, 5), -1), (TWO, (17, 12), 1)):
            self.told(f, place, expected)

    def test_at_other_places(self):
        for place in SAME[5]:
            self.told((), place, 0)
            self.told((3,), place, 1)
            self.told((-3,), place, -1)
            self.told((0, 1), place, 1)
            self.told((-7, 5), place, 1)
            self.told((-17, 12), place, -1)
            self.told(TWO, place, 0)
            self.told(product(TWO, TWO, (5, 1)), place, 0)
            self.told(product((-3, 2), (-3, 2)), place, 1)
            self.told((-2, 0, 0, 1), place, 1)
            self.told((-2 * SIZE - 1, 0, SIZE), place, -1)
            self.told((1 - 2 * SIZE, 0, SIZE), place, 1)
        for place in SAME[0]:
            self.told((0, 1), place, -1)
            self.told((0, -1), place, 1)

    def test_every_number_against_every_linear_row(self):
        for at, places in enumerate(SAME):
            for other, others in enumerate(SAME):
                if len(others[0]) == 2:
                    top, bottom = others[0]
                    expected = (at > other) - (at < other)
                    for place in places:
                        self.told((-top, bottom), place, expected)
                        self.told((top, -bottom), place, -expected)
                        self.told(product(*[(-top, bottom)] * 3), place, expected)

    def test_great_rows(self):
        random = seeded(13)
        for degree in range(2, 9):
            f, g = random_row(random, degree, SIZE), random_row(random, 8, SIZE)
            for place in roots_of(f):
                self.told(f, place, 0)
                if len(place) == 2:
                    continue
                small = finer(place, (1, 10 ** 40))
                middle = naive.value(g, (number(small[1]) + number(small[2])) / 2)
                self.told(g, place, 1 if middle > 0 else -1)


class Orders(unittest.TestCase):

    def told(self, one, other, expected):
        answer = order_of(one, other)
        self.assertTrue(is_whole(answer), answer)
        self.assertEqual(answer, expected, (one, other))

    def test_of_all_ways_to_tell(self):
        for at, places in enumerate(SAME):
            for other, others in enumerate(SAME):
                for one in places:
                    for two in others:
                        self.told(one, two, (at > other) - (at < other))

    def test_of_near_ones(self):
        f = (-2, 4 * 10 ** 6, -2 * SIZE, 0, 0, 0, 0, 0, 1)
        roots = roots_of(f)
        wide = [(f, (0, 1), (1, 10 ** 6)), (f, (1, 10 ** 6), (1, 1))]
        for place, same in zip(wide, roots[1:3]):
            self.told(place, same, 0)
            self.told(same, place, 0)
        self.told(wide[0], roots[2], -1)
        self.told(roots[2], wide[0], 1)
        self.told(wide[0], wide[1], -1)
        # Two unlike rows with roots that are about 10^-13 apart, and wide ends.
        one, other = ((-2 * SIZE, 0, SIZE), (0, 1), (9, 1)), ((-2 * SIZE - 1, 0, SIZE), (0, 1), (9, 1))
        self.told(one, other, -1)
        self.told(other, one, 1)

    def test_of_the_ends_of_one_another(self):
        self.told((1, 1), ROOT, -1)
        self.told((2, 1), ROOT, 1)
        self.told(ROOT, (1, 1), 1)
        self.told(ROOT, (2, 1), -1)
        self.told(ROOT, ((-7, 0, 1), (2, 1), (3, 1)), -1)
        self.told(((-7, 0, 1), (2, 1), (3, 1)), ROOT, 1)


class Between(unittest.TestCase):

    def told(self, one, other):
        answer = place_between(one, other)
        self.assertTrue(is_fraction(answer), answer)
        if one is not None:
            self.assertEqual(order_of(one, answer), -1, (one, other, answer))
        if other is not None:
            self.assertEqual(order_of(answer, other), -1, (one, other, answer))

    def test_of_all_ways_to_tell(self):
        for at, places in enumerate(SAME):
            for others in SAME[at + 1:]:
                for one in places:
                    for other in others:
                        self.told(one, other)

    def test_without_ends(self):
        self.told(None, None)
        for place in PLACES:
            self.told(None, place)
            self.told(place, None)
        for n in range(-5, 6):
            for d in (1, 2, 3):
                place = pair(Fraction(n, d))
                self.assertLess(number(place_between(None, place)), number(place))
                self.assertLess(number(place), number(place_between(place, None)))

    def test_of_near_ones(self):
        self.told((1, BIG), (1, BIG - 1))
        self.told((BIG - 1, BIG), (1, 1))
        for one, other in zip(roots_of((-2, 4 * 10 ** 6, -2 * SIZE, 0, 0, 0, 0, 0, 1)),
                              roots_of((-2, 4 * 10 ** 6, -2 * SIZE, 0, 0, 0, 0, 0, 1))[1:]):
            self.told(one, other)
        self.told(ROOT, ((-2 * SIZE - 1, 0, SIZE), (0, 1), (9, 1)))

    def test_refused(self):
        for at, places in enumerate(SAME):
            for others in SAME[:at + 1]:
                for one in places:
                    for other in others:
                        with self.assertRaises(NoEnds):
                            place_between(one, other)


class Finer(unittest.TestCase):

    def told(self, place, wide):
        answer = finer(place, wide)
        self.assertIs(type(answer), tuple)
        if len(place) == 2:
            self.assertEqual(answer, place)
            return
        self.assertEqual(answer[0], place[0])
        self.assertTrue(is_place(answer), (place, wide, answer))
        self.assertEqual(order_of(answer, place), 0)
        self.assertGreaterEqual(number(answer[1]), number(place[1]))
        self.assertLessEqual(number(answer[2]), number(place[2]))
        self.assertLessEqual(number(answer[2]) - number(answer[1]), number(wide), (place, wide, answer))

    def test_of_all_ways_to_tell(self):
        for place in PLACES:
            for wide in ((BIG, 1), (10, 1), (1, 1), (3, 7), (1, 10 ** 6), (1, BIG), (2, BIG)):
                self.told(place, wide)

    def test_roots_that_are_met(self):
        self.told(((0, 1), (-1, 1), (1, 1)), (1, 3))
        self.told(((0, 0, 1), (-1, 1), (1, 1)), (1, BIG))
        self.told(((0, 1), (-1, 1), (1, 1)), (19, 10))
        self.told((with_roots(Fraction(1, 2)), (0, 1), (1, 1)), (1, 1))
        self.told((with_roots(Fraction(1, 2)), (0, 1), (1, 1)), (999, 1000))
        self.told((with_roots(0, 0, 1), (-1, BIG), (1, 2)), (1, 4))

    def test_of_places_that_are_not_near(self):
        self.told((with_roots(BIG - 1), (0, 1), (BIG, 1)), (1, BIG))
        self.told(((-2, 0, 1), (0, 1), (BIG, 1)), (1, BIG))

    def test_what_was_handed_in_is_not_changed(self):
        place = (product(TWO, TWO), (1, 1), (2, 1))
        answer = finer(place, (1, 10))
        self.assertEqual(place, ((4, 0, -4, 0, 1), (1, 1), (2, 1)))
        self.assertIsNot(answer[0], place[0])
        fraction = (7, 5)
        self.assertIsNot(finer(fraction, (1, 10)), fraction)


class ToldPlaces(unittest.TestCase):

    def test_roots_are_places_in_rising_order(self):
        random = seeded(14)
        rows = [random_row(random, 8, size) for size in (3, 100, SIZE)]
        rows += [product(TWO, TWO, with_roots(0, 0, Fraction(7, 5))), with_roots(*range(-4, 4))]
        for f in rows:
            roots = roots_of(f)
            self.assertTrue(all(is_place(root) for root in roots))
            for one, other in zip(roots, roots[1:]):
                self.assertEqual(order_of(one, other), -1)
            for root in roots:
                self.assertEqual(sign_at(f, root), 0)


if __name__ == "__main__":
    unittest.main()
