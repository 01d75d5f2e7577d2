"""What two rows share, by rests of their numbers modulo a prime, where these have a bounded size."""

from planestacks.rows import plain_row, row_of, whole_quotient
from planestacks.wholes import common_divisor

# Two to each of these powers, less 1, is a prime.
PRIME_BITS = (61, 127, 521, 1279, 4423)


def inverse_of(number, prime):
    """What the number must be multiplied by to come to 1 modulo the prime."""
    a, b, first, second = prime, number % prime, 0, 1
    while b > 1:
        many = a // b
        a, b, first, second = b, a - many * b, second, first - many * second
    return second % prime


def made_monic(numbers, prime):
    scale = inverse_of(numbers[-1], prime)
    return [number * scale % prime for number in numbers]


def rest_modulo(f, g, prime):
    """The rest of f by g, whose last number is 1."""
    rest, many = list(f), len(g) - 1
    while len(rest) > many:
        top = rest.pop()
        start = len(rest) - many
        for k in range(many):
            rest[start + k] = (rest[start + k] - top * g[k]) % prime
    return list(row_of(rest))


def shared_modulo(f, g, prime):
    """What two rows share modulo the prime, which divides neither one's last number; its last number is 1."""
    f, g = [number % prime for number in f], [number % prime for number in g]
    while g != []:
        g = made_monic(g, prime)
        f, g = g, rest_modulo(f, g, prime)
    return f


def lifted(numbers, last, prime):
    """The plain row of small numbers that is these numbers, times last, modulo the prime."""
    rests = [number * last % prime for number in numbers]
    return plain_row(row_of([rest - prime if 2 * rest > prime else rest for rest in rests]))


def shared_by(f, g, prime):
    """The shared row of two rows that are put low, where this prime tells it; else None.

    What they share modulo the prime has no lesser degree than what they share. So where it is 1, they share 1; and
    where it is that of a row that divides both, this is the one of greatest degree.
    """
    if f[-1] % prime == 0 or g[-1] % prime == 0:
        return None
    shared = shared_modulo(f, g, prime)
    if len(shared) == 1:
        return (1,)
    row = lifted(shared, common_divisor(f[-1], g[-1]), prime)
    divides = whole_quotient(f, row) is not None and whole_quotient(g, row) is not None
    return row if divides else None


def shared_by_primes(f, g):
    """The shared row of two rows that are put low and not (); None where its numbers are too great for each prime."""
    for bits in PRIME_BITS:
        shared = shared_by(f, g, (1 << bits) - 1)
        if shared is not None:
            return shared
    return None
