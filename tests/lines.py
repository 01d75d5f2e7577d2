"""Planes of lines a x + b y + c whose numbers are told by surds: boards that are products of such lines, and what
holds of them, reckoned slowly by a spot in each piece into which the lines cut the plane."""

from fractions import Fraction
from functools import lru_cache

from naive import number, seeded
from planestacks.boards import board_minus, board_times
from surds import Surd, times, value

SIGNS = ((-1,), (0,), (1,), (-1, 0), (0, 1), (-1, 1))


def flat(a, b, c):
    """The board of a x + b y + c, whole numbers."""
    rows = [(c, a) if a else (c,) if c else (), (b,) if b else ()]
    while rows and rows[-1] == ():
        rows.pop()
    return tuple(rows)


def board_of_line(line):
    """The board of a line, times that of its other one where the square root of 2 stands in it."""
    plain, roots = flat(*[int(part.a) for part in line]), flat(*[int(part.b) for part in line])
    if roots == ():
        return plain
    return board_minus(board_times(plain, plain), times(((2,),), roots, roots))


def with_others(lines):
    """The lines, and the other one of each in which the square root of 2 stands."""
    others = [tuple(part.other() for part in line) for line in lines if any(part.b for part in line)]
    return list(lines) + others


def crossing(one, other):
    """Where two lines meet, as (x, y); None where they don't, or everywhere."""
    (a, b, c), (d, e, f) = one, other
    cross = a * e + b * d * -1
    if cross == 0:
        return None
    part = cross.inverse()
    return ((b * f + c * e * -1) * part, (c * d + a * f * -1) * part)


def between(numbers):
    """The numbers, rising, with one between each two and one beyond at either end."""
    numbers = sorted(set(numbers))
    if not numbers:
        return [Surd(0)]
    found = [numbers[0] + -1]
    for at, one in enumerate(numbers):
        found += [one, (one + numbers[at + 1]) * Fraction(1, 2) if at + 1 < len(numbers) else one + 1]
    return found


def turned_lines(lines):
    return [(b, a, c) for a, b, c in lines]


def cuts_of(lines):
    """All x at which two lines meet or one stands upright."""
    found = [crossing(one, other) for at, one in enumerate(lines) for other in lines[:at]]
    return [spot[0] for spot in found if spot is not None] + [
        c * a.inverse() * -1 for a, b, c in lines if b == 0 and a != 0]


def heights_at(lines, x):
    return [(a * x + c) * b.inverse() * -1 for a, b, c in lines if b != 0]


def sign_at(lines, x, y):
    sign = 1
    for a, b, c in lines:
        sign *= (a * x + b * y + c).sign()
    return sign


class Plane:
    """Some boards, each told by its lines, and the signs that they have in each piece of the plane."""

    def __init__(self, factors):
        self.boards = [times(*[board_of_line(line) for line in lines]) for lines in factors]
        self.lines = [with_others(lines) for lines in factors]
        self.columns = {"x": self.columns_of(self.lines),
                        "y": self.columns_of([turned_lines(lines) for lines in self.lines])}

    def columns_of(self, factors):
        every = [line for lines in factors for line in lines]
        return [(x, [(y, self.signs_of(factors, x, y)) for y in between(heights_at(every, x))])
                for x in between(cuts_of(every))]

    def signs_of(self, factors, x, y):
        return {board: sign_at(lines, x, y) for board, lines in zip(self.boards, factors)}

    def holds_over(self, S, column):
        """Whether a saying over a letter holds in a column of its pieces."""
        if S[0] in ("some", "all"):
            truths = [plain_holds(S[2], signs) for y, signs in column]
            return any(truths) if S[0] == "some" else all(truths)
        if S[0] == "is":
            return plain_holds(S, column[0][1])
        return join(S[0], [self.holds_over(T, column) for T in S[1:]])

    def truths(self, S, letter):
        return [(x, self.holds_over(S, column)) for x, column in self.columns[letter]]

    def holds(self, S):
        """Whether a closed saying holds."""
        if S[0] in ("some", "all"):
            truths = [truth for x, truth in self.truths(S[2], S[1])]
            return any(truths) if S[0] == "some" else all(truths)
        return join(S[0], [self.holds(T) for T in S[1:]])

    def pieces(self):
        return [signs for x, column in self.columns["x"] for y, signs in column]


def join(word, truths):
    if word == "not":
        return not truths[0]
    return all(truths) if word == "and" else any(truths)


def plain_holds(S, signs):
    if S[0] == "is":
        return signs[S[1]] in S[2]
    return join(S[0], [plain_holds(T, signs) for T in S[1:]])


def surd_of_place(place, among):
    """The number that is told by a place, sought among some where it is no fraction."""
    if len(place) == 2:
        return Surd(number(place))
    return one_of([s for s in among if value((place[0],), s, 0) == 0], place)


def surd_of_height(Y, x, among):
    if len(Y) == 2:
        return Surd(number(Y))
    return one_of([s for s in among if value(Y[0], x, s) == 0], Y)


def one_of(numbers, told):
    found = [s for s in set(numbers) if Surd(number(told[1])) < s < Surd(number(told[2]))]
    if len(found) != 1:
        raise AssertionError(f"{told} is not one number of these: {found}")
    return found[0]


def spot_told(plane, X, Y):
    """The two numbers of a told spot, the first one, where it is no fraction, among the cuts of the plane."""
    every = [line for lines in plane.lines for line in lines]
    x = surd_of_place(X, cuts_of(every))
    return x, surd_of_height(Y, x, heights_at(every, x))


def signs_told(plane, X, Y):
    x, y = spot_told(plane, X, Y)
    return {board: sign_at(lines, x, y) for board, lines in zip(plane.boards, plane.lines)}


def drawn_line(random, surds, size=2):
    """A line, with the square root of 2 where surds are asked for."""
    while True:
        parts = [Surd(random.randint(-size, size), random.choice((0, 0, 1, -1)) if surds else 0) for _ in range(3)]
        if parts[0] != 0 or parts[1] != 0:
            return tuple(parts)


def drawn_plane(random):
    """One to three boards of one or two lines each, few of which have the square root of 2 in them."""
    while True:
        factors = [[drawn_line(random, random.random() < 0.25) for _ in range(random.choice((1, 1, 2)))]
                   for _ in range(random.choice((1, 2, 2, 3)))]
        if random.random() < 0.4:
            factors[-1].append(factors[0][0])
        if sum(len(with_others(lines)) for lines in factors) <= 7:
            plane = Plane(factors)
            if len(set(plane.boards)) == len(plane.boards):
                return plane


@lru_cache
def drawn_planes():
    """The planes for all tests, for it takes long to cut them."""
    random = seeded(100)
    return tuple(drawn_plane(random) for _ in range(40))


def drawn_plain(random, boards, many):
    if many == 1:
        S = ("is", random.choice(boards), random.choice(SIGNS))
    else:
        left = random.randint(1, many - 1)
        S = (random.choice(("and", "or")), drawn_plain(random, boards, left), drawn_plain(random, boards, many - left))
    return ("not", S) if random.random() < 0.2 else S


def drawn_over(random, boards, letter, many):
    """A saying over a letter; a board outside of some and all must be without the other one."""
    other = "y" if letter == "x" else "x"
    alone = [f for f in boards if (len(f) < 2 if letter == "x" else all(len(row) < 2 for row in f))]
    if many == 1:
        if alone and random.random() < 0.5:
            return ("is", random.choice(alone), random.choice(SIGNS))
        return (random.choice(("some", "all")), other, drawn_plain(random, boards, random.randint(1, 3)))
    S = (random.choice(("and", "or")), drawn_over(random, boards, letter, 1),
         drawn_over(random, boards, letter, many - 1))
    return ("not", S) if random.random() < 0.3 else S


def drawn_closed(random, boards, many):
    if many == 1:
        letter = random.choice("xy")
        S = (random.choice(("some", "all")), letter, drawn_over(random, boards, letter, random.randint(1, 2)))
        return ("not", S) if random.random() < 0.2 else S
    return (random.choice(("and", "or")), drawn_closed(random, boards, 1), drawn_closed(random, boards, many - 1))
