"""Slow, plain reckonings with Python's own fractions, to hold the program's answers against."""

from fractions import Fraction
from math import gcd
from random import Random


def pair(number):
    number = Fraction(number)
    return (number.numerator, number.denominator)


def number(fraction):
    return Fraction(fraction[0], fraction[1])


def value(f, at):
    return sum((n * at ** k for k, n in enumerate(f)), Fraction(0))


def trimmed(numbers):
    numbers = list(numbers)
    while numbers and numbers[-1] == 0:
        numbers.pop()
    return numbers


def low(numbers):
    """The numbers, fractions perhaps, times a fraction above 0, whole and without a common divisor."""
    numbers = [Fraction(n) for n in trimmed(numbers)]
    if not numbers:
        return ()
    bottom = 1
    for n in numbers:
        bottom = bottom * n.denominator // gcd(bottom, n.denominator)
    wholes = [int(n * bottom) for n in numbers]
    return tuple(n // gcd(*wholes) for n in wholes)


def product(*rows):
    """The product of rows, power by power."""
    result = [1]
    for row in rows:
        longer = [0] * (len(result) + len(row) - 1) if row else []
        for j, a in enumerate(result):
            for k, b in enumerate(row):
                longer[j + k] += a * b
        result = longer
    return tuple(trimmed(result))


def divide(f, g):
    """The quotient and the rest over fractions, as lists."""
    rest = [Fraction(n) for n in f]
    quotient = [Fraction(0)] * max(len(f) - len(g) + 1, 0)
    for k in range(len(f) - len(g), -1, -1):
        quotient[k] = rest[k + len(g) - 1] / g[-1]
        for j, n in enumerate(g):
            rest[k + j] -= quotient[k] * n
    return quotient, trimmed(rest)


def random_row(random, degree, size):
    numbers = [random.randint(-size, size) for _ in range(degree)]
    return tuple(numbers + [random.choice((-1, 1)) * random.randint(1, size)])


def seeded(seed):
    return Random(seed)


def slope(f):
    return [k * n for k, n in enumerate(f)][1:]


def chain(f, g):
    """f, g and the rests with the other sign, over fractions, as lists."""
    rows = [list(f)]
    while trimmed(g):
        rows.append(list(g))
        g = [-n for n in divide(rows[-2], rows[-1])[1]]
    return rows


def changes(rows, at):
    signs = [value(row, at) for row in rows]
    signs = [n > 0 for n in signs if n]
    return sum(a != b for a, b in zip(signs, signs[1:]))


def count(f, low, high):
    """How many unlike roots f has between two numbers at which it isn't 0."""
    rows = chain(f, slope(f))
    return changes(rows, Fraction(low)) - changes(rows, Fraction(high))


def beyond(f):
    """A number above the size of each root."""
    return 1 + sum(abs(Fraction(n, f[-1])) for n in f)


def with_roots(*roots):
    """The row with just these roots, fractions, as often as they stand here."""
    return product(*[(-Fraction(root).numerator, Fraction(root).denominator) for root in roots])
