"""Point 22: what is told of regions."""

import unittest

from naive import product
from planestacks.places import is_place, order_of
from planestacks.regions import greatest_of, in_region, least_of, same_region

TWO = (-2, 0, 1)
BIG = 10 ** 30 - 1
# Numbers in rising order, each told in several ways.
NUMBERS = (
    ((-5, 1), ((5, 1), (-6, 1), (0, 1))),
    ((TWO, (-2, 1), (-1, 1)), (product(TWO, TWO), (-3, 2), (-7, 5))),
    ((0, 1), ((0, 0, 1), (-1, 1), (1, 9))),
    ((1, BIG),),
    ((TWO, (1, 1), (2, 1)), ((4, 0, -4, 0, 1), (7, 5), (3, 2)), (product(TWO, (-3, 0, 1)), (0, 1), (3, 2))),
    ((3, 2), ((-9, 0, 4), (1, 1), (2, 1))),
    ((BIG, 1),),
)
LOW, ROOT, HIGH = NUMBERS[0], NUMBERS[4], NUMBERS[5]


def part(low, low_in, high, high_in):
    return (low, low_in, high, high_in)


class Belongs(unittest.TestCase):

    def told(self, region, place, expected):
        answer = in_region(region, place)
        self.assertIs(answer, expected, (region, place))

    def test_of_none_and_of_all(self):
        for places in NUMBERS:
            for place in places:
                self.told((), place, False)
                self.told(((None, False, None, False),), place, True)

    def test_ends(self):
        for low_at in range(len(NUMBERS)):
            for high_at in range(low_at + 1, len(NUMBERS)):
                for low_in in (True, False):
                    for high_in in (True, False):
                        region = (part(NUMBERS[low_at][-1], low_in, NUMBERS[high_at][0], high_in),)
                        for at, places in enumerate(NUMBERS):
                            expected = low_at < at < high_at or at == low_at and low_in or at == high_at and high_in
                            for place in places:
                                self.told(region, place, expected)

    def test_parts_without_an_end(self):
        for at, places in enumerate(NUMBERS):
            for belongs in (True, False):
                for k, others in enumerate(NUMBERS):
                    for place in places:
                        for other in others:
                            self.told((part(None, False, other, belongs),), place, at < k or at == k and belongs)
                            self.told((part(other, belongs, None, False),), place, at > k or at == k and belongs)

    def test_one_number_alone(self):
        for places in NUMBERS:
            for one in places:
                for other in places:
                    for at, others in enumerate(NUMBERS):
                        for place in others:
                            self.told((part(one, True, other, True),), place, others == places)

    def test_of_several_parts(self):
        region = (part(None, False, LOW[1], False), part(NUMBERS[1][0], True, NUMBERS[2][1], False),
                  part(ROOT[1], True, ROOT[2], True), part(HIGH[0], False, NUMBERS[6][0], True))
        for places, expected in zip(NUMBERS, (False, True, False, False, True, False, True)):
            for place in places:
                self.told(region, place, expected)
        for place, expected in (((-6, 1), True), ((-3, 1), False), ((-1, 1), True), ((1, 1), False), ((2, 1), True),
                                ((BIG + 1, 1), False), (((-3, 0, 1), (1, 1), (2, 1)), True)):
            self.told(region, place, expected)

    def test_two_parts_with_one_number_between(self):
        region = (part(None, False, ROOT[0], False), part(ROOT[1], False, None, False))
        for places in NUMBERS:
            for place in places:
                self.told(region, place, places != ROOT)


class Same(unittest.TestCase):

    def told(self, one, other, expected):
        self.assertIs(same_region(one, other), expected, (one, other))
        self.assertIs(same_region(other, one), expected, (one, other))

    def test_of_none_and_of_all(self):
        whole = ((None, False, None, False),)
        self.told((), (), True)
        self.told(whole, whole, True)
        self.told((), whole, False)

    def test_other_forms(self):
        for low_in in (True, False):
            for high_in in (True, False):
                for low in LOW:
                    for high in ROOT:
                        self.told((part(LOW[0], low_in, ROOT[0], high_in),), (part(low, low_in, high, high_in),), True)
                        self.told((part(LOW[0], not low_in, ROOT[0], high_in),), (part(low, low_in, high, high_in),), False)
                        self.told((part(LOW[0], low_in, ROOT[0], not high_in),), (part(low, low_in, high, high_in),), False)
                        self.told((part(None, False, ROOT[0], high_in),), (part(low, low_in, high, high_in),), False)
                        self.told((part(LOW[0], low_in, None, False),), (part(low, low_in, high, high_in),), False)

    def test_other_numbers(self):
        for at, places in enumerate(NUMBERS):
            for other, others in enumerate(NUMBERS):
                for place in places:
                    for another in others:
                        same = at == other
                        self.told((part(None, False, place, True),), (part(None, False, another, True),), same)
                        self.told((part(place, False, None, False),), (part(another, False, None, False),), same)
                        self.told((part(place, True, place, True),), (part(another, True, another, True),), same)

    def test_one_number_alone_in_any_form(self):
        for one in ROOT:
            for other in ROOT:
                self.told((part(one, True, other, True),), (part(other, True, one, True),), True)
                self.told((part(one, True, other, True),), (part(ROOT[0], True, ROOT[0], True),), True)

    def test_of_several_parts(self):
        first, second, third = part(None, False, LOW[0], True), part(ROOT[0], True, ROOT[0], True), part(HIGH[0], False, None, False)
        same = part(None, False, LOW[1], True), part(ROOT[1], True, ROOT[2], True), part(HIGH[1], False, None, False)
        self.told((first, second, third), same, True)
        self.told((first, second), same, False)
        self.told((second, third), same, False)
        self.told((first, third), same, False)
        self.told((first, second), same[:2], True)
        self.told((first, second), same[1:], False)
        self.told((part(None, False, ROOT[0], False), part(ROOT[0], False, None, False)), ((None, False, None, False),), False)


class Ends(unittest.TestCase):

    def told(self, answer, word, places=None):
        self.assertIs(type(answer), tuple)
        self.assertEqual(answer[0], word)
        self.assertEqual(len(answer), 1 if places is None else 2)
        if places is not None:
            self.assertTrue(is_place(answer[1]))
            self.assertEqual(order_of(answer[1], places[0]), 0)

    def test_of_none(self):
        self.assertEqual(least_of(()), ("none",))
        self.assertEqual(greatest_of(()), ("none",))

    def test_endless(self):
        self.assertEqual(least_of(((None, False, None, False),)), ("endless",))
        self.assertEqual(greatest_of(((None, False, None, False),)), ("endless",))
        region = (part(None, False, LOW[0], True), part(HIGH[0], True, None, False))
        self.assertEqual(least_of(region), ("endless",))
        self.assertEqual(greatest_of(region), ("endless",))

    def test_at_and_short(self):
        for low in LOW:
            for high in HIGH:
                for low_in in (True, False):
                    for high_in in (True, False):
                        whole = (part(low, low_in, high, high_in),)
                        two = (part(low, low_in, ROOT[0], False), part(ROOT[0], False, high, high_in))
                        for region in (whole, two):
                            self.told(least_of(region), "at" if low_in else "short", LOW)
                            self.told(greatest_of(region), "at" if high_in else "short", HIGH)

    def test_one_number_alone(self):
        for one in ROOT:
            for other in ROOT:
                region = (part(one, True, other, True),)
                self.told(least_of(region), "at", ROOT)
                self.told(greatest_of(region), "at", ROOT)

    def test_one_end_only(self):
        self.told(least_of((part(ROOT[1], False, None, False),)), "short", ROOT)
        self.told(greatest_of((part(ROOT[1], False, None, False),)), "endless")
        self.told(least_of((part(None, False, ROOT[1], True),)), "endless")
        self.told(greatest_of((part(None, False, ROOT[1], True),)), "at", ROOT)

    def test_what_is_told_is_new(self):
        region = (part(LOW[1], True, ROOT[1], False),)
        self.assertIsNot(least_of(region)[1], LOW[1])
        self.assertIsNot(greatest_of(region)[1], ROOT[1])
        self.assertEqual(region, ((LOW[1], True, ROOT[1], False),))


if __name__ == "__main__":
    unittest.main()
