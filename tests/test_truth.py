"""Points 21 and 22: what holds at a spot, closed sayings, and the regions of sayings over a letter."""

import unittest

from kinds import is_fraction, things
from lines import drawn_closed, drawn_over, drawn_plain, drawn_planes, plain_holds, surd_of_place, cuts_of
from naive import seeded
from planestacks.above import sign_above
from planestacks.boards import turned
from planestacks.errors import NoHeight, NoKind, NoPlace
from planestacks.places import is_place, order_of
from planestacks.regions import in_region, same_region
from planestacks.sayings import boards_of
from planestacks.sayingtexts import read_saying
from planestacks.terms import read_term
from planestacks.truth import region_of, settled, true_at
from planestacks.walls import wall_of
from surds import Surd, TWO, value

ROOT = (TWO, (1, 1), (2, 1))
LESS = (TWO, (-2, 1), (-1, 1))
# Above the square root of 2 the heights of y^2 - x: its fourth root, and this with the other sign.
PARABOLA = ((0, -1), (), (1,))
FOURTH = (PARABOLA, (1, 1), (2, 1))
SIGNS = ((-1,), (0,), (1,), (-1, 0), (0, 1), (-1, 1))

TRUE = """
some x x^2 = 2
some x [x^2 = 2 and x > 1]
all x x^2 >= 0
all x some y y^3 = x
all y some x x = y^2
all y some x x^3 = y
some x all y x*y = 0
some y all x x*y = 0
some x all y [x*y = 0 and x = 0]
all x all y x^2 + y^2 >= 2*x*y
some x some y [x^2 + y^2 <= 0 and x = y]
some x some y x^2 + y^2 = 0
some y some x [x^2 + y^2 = 2 and x*y = 1]
some x some y [x^2 = 2 and y^2 = x]
some x [x^2 = 2 and some y [y^2 = x and y > 1]]
some x [x^2 = 2 and some y [x*y = 2 and y^2 = 2]]
some x [x^2 = 2 and [some y y^4 = 2 and all y y^2 + x > 0]]
all x [x^2 != 2 or some y [x*y = 2 and y = x]]
all x [x = 0 or some y x*y = 1]
all x [x^2 > 2 or some y x^2 + y^2 = 2]
all y [y^2 > 2 or some x x^2 + y^2 = 2]
not all x x^2 != 2
not some y y^2 < 0
[some x x > 5 and some y y < 0]
[some x x^2 < 0 or all y y^2 >= 0]
[not some x x^2 < 0 and not all y y > 0]
1 < 2
not 0 = 1
[0 = 0 or some x x^2 < 0]
[some x x^2 = 2 and 3 >= 3]
some x some y x + y = 7
all x some y x + y = 7
some x all y 1 > 0
all y all x 1 > 0
some x 3 != 0
"""

FALSE = """
some x x^2 < 0
all x x^2 != 2
all x [x^2 != 2 or x < 1]
all x x^2 > 0
all x some y y^2 = x
all y some x y = x^2
some x all y x = y
some y all x y = x^2
all x some y x*y = 1
some x some y x^2 + y^2 < 0
all x all y x^2 + y^2 > 0
all x all y [x^2 + y^2 != 2 or x*y != 1]
some x [x^2 = 2 and some y [x*y = 2 and y^2 > 2]]
some x [x^2 = 2 and [x > 0 and all y x*y < y^2]]
all x [x^2 <= 2 or some y x^2 + y^2 = 2]
all y [y^2 < 3 or some x x^2 + y^2 = 2]
not some x x^2 = 2
not all y y^2 >= 0
[some x x > 5 and some y y^2 < 0]
[some x x^2 < 0 or all y y^2 > 0]
1 > 2
not 0 = 0
[0 = 1 or some x x^2 < 0]
[some x x^2 = 2 and 3 < 3]
some x all y x + y = 7
all x all y 0 > 0
some y some x 1 < 0
"""


def sayings(text):
    return [read_saying(row) for row in text.split("\n") if row]


def walls_due(S):
    """The walls of a closed saying, found by calling oneself."""
    if S[0] in ("some", "all"):
        boards = boards_of(S[2])
        return (wall_of(boards if S[1] == "x" else tuple(turned(f) for f in boards)),)
    if S[0] == "is":
        return ()
    return sum((walls_due(T) for T in S[1:]), ())


class AtASpot(unittest.TestCase):

    def told(self, text, X, Y, truth):
        S = read_saying(text)
        self.assertIs(true_at(S, X, Y), truth, text)
        self.assertIs(true_at(("not", S), X, Y), not truth, text)

    def test_each_sign(self):
        f = read_term("x - y")
        for signs in SIGNS:
            for X, Y, sign in (((1, 2), (2, 3), -1), ((2, 3), (2, 3), 0), ((7, 10), (2, 3), 1)):
                self.assertIs(true_at(("is", f, signs), X, Y), sign in signs)

    def test_each_sign_at_no_fractions(self):
        for signs in SIGNS:
            for f, sign in (("y^4 - 2", 0), ("y^2 - x", 0), ("y - x", -1), ("x*y - 1", 1), ("x^2 - 2", 0), ("0", 0),
                            ("x^2 + y - 3", 1), ("7", 1), ("0 - 7", -1), ("y^3 - x*y", 0), ("y^2 + x - 3", -1)):
                self.assertIs(true_at(("is", read_term(f), signs), ROOT, FOURTH), sign in signs, f)

    def test_each_form(self):
        for X, Y in (((0, 1), (1, 1)), (ROOT, FOURTH), (ROOT, (1, 1)), (LESS, (5, 1))):
            holds, fails = "x^2 >= 0", "y < 0"
            for one, first in ((holds, True), (fails, False)):
                self.told(one, X, Y, first)
                for other, second in ((holds, True), (fails, False)):
                    self.told(f"[{one} and {other}]", X, Y, first and second)
                    self.told(f"[{one} or {other}]", X, Y, first or second)
                    self.told(f"[not {one} and {other}]", X, Y, not first and second)
                    self.told(f"[{one} or not not [{other} and {one}]]", X, Y, first)

    def test_forms_of_one_number(self):
        for X in (ROOT, ((4, 0, -4, 0, 1), (1, 1), (3, 2)), ((-2, 0, 1, -2, 0, 1), (7, 5), (3, 2))):
            for Y in (FOURTH, (((-2,), (), (), (), (1,)), (0, 1), (9, 1)), (read_term("(y^2 - x)^2"), (1, 1), (3, 2))):
                self.told("[y^2 = x and x*x = 2]", X, Y, True)
                self.told("[y^2 < x or y > x]", X, Y, False)
        self.told("x = 3", ((-9, 0, 1), (2, 1), (4, 1)), (0, 1), True)

    def test_a_board_that_is_nought_above_the_place(self):
        self.told("(x^2 - 2)*y = 0", ROOT, FOURTH, True)
        self.told("(x^2 - 2)*y = 0", ROOT, (3, 1), True)
        self.told("(x^2 - 2)*y != 0", (1, 1), (3, 1), True)

    def test_refusals_and_their_order(self):
        bound = read_saying("some x x = y")
        plain = read_saying("x = y")
        for S in (bound, ("not", bound), ("and", plain, bound), ("or", bound, plain), ("all", "y", plain)):
            for X, Y in (((0, 1), (0, 1)), (None, (0, 1)), ((0, 1), None), ("x", "y")):
                self.assertRaises(NoKind, true_at, S, X, Y)
        for thing in things():
            for Y in ((0, 1), None, thing):
                self.assertRaises(NoPlace, true_at, plain, thing, Y)
            self.assertRaises(NoHeight, true_at, plain, (0, 1), thing)
            self.assertRaises(NoHeight, true_at, plain, ROOT, thing)
        for X in ((2, 4), (1, 0), [0, 1], (TWO, (1, 1), (1, 1)), (TWO, (2, 1), (3, 1)), (TWO, (-2, 1), (2, 1))):
            self.assertRaises(NoPlace, true_at, plain, X, (0, 1))
        for X, Y in ((LESS, FOURTH), ((0, 1), FOURTH), (ROOT, (PARABOLA, (2, 1), (3, 1))), (ROOT, (2, 4)),
                     (ROOT, (read_term("(x^2 - 2)*y"), (-1, 1), (1, 1))), (ROOT, (TWO, (1, 1), (2, 1)))):
            self.assertRaises(NoHeight, true_at, plain, X, Y)

    def test_drawn(self):
        random = seeded(101)
        for plane in drawn_planes()[:12]:
            X, Y = (random.randint(-3, 3), 1), (random.randint(-3, 3), 1)
            signs = {f: sign_above(f, X, Y) for f in plane.boards}
            for f, sign in signs.items():
                self.assertEqual(value(f, Surd(X[0]), Surd(Y[0])).sign(), sign)
            for many in range(1, 9):
                S = drawn_plain(random, plane.boards, many)
                self.assertIs(true_at(S, X, Y), plain_holds(S, signs))

    def test_nested_deep(self):
        S = read_saying("x^2 = 2")
        for at in range(90):
            S = ("not", ("and", S, S)) if at % 30 == 0 else ("not", S)
        self.assertIs(true_at(S, ROOT, (0, 1)), True)
        self.assertIs(true_at(S, (1, 1), (0, 1)), False)


class Settled(unittest.TestCase):

    def told(self, S):
        answer = settled(S)
        self.assertIs(type(answer), tuple)
        self.assertEqual(len(answer), 2)
        self.assertIs(type(answer[1]), tuple)
        self.assertEqual(answer[1], walls_due(S))
        return answer[0]

    def test_true_ones(self):
        for S in sayings(TRUE):
            self.assertEqual(self.told(S), "true", S)
            self.assertEqual(self.told(("not", S)), "false", S)

    def test_false_ones(self):
        for S in sayings(FALSE):
            self.assertEqual(self.told(S), "false", S)
            self.assertEqual(self.told(("not", S)), "true", S)

    def test_put_together(self):
        true, false = read_saying("some x x^2 = 2"), read_saying("some y y^2 < 0")
        for S, T, both, either in ((true, true, 1, 1), (true, false, 0, 1), (false, true, 0, 1), (false, false, 0, 0)):
            self.assertEqual(self.told(("and", S, T)), ("false", "true")[both])
            self.assertEqual(self.told(("or", S, T)), ("false", "true")[either])

    def test_the_walls_and_their_order(self):
        parabola, circle = read_term("y^2 - x"), read_term("x^2 + y^2 - 2")
        S = read_saying("[[some x all y y^2 = x or 0 = 1] and [not all y some x x^2 + y^2 = 2 or some y some x y^2 = x]]")
        walls = settled(S)[1]
        self.assertEqual(walls, (wall_of((parabola,)), wall_of((turned(circle),)), wall_of((turned(parabola),))))
        self.assertNotEqual(walls[0], walls[2])
        S = read_saying("some x [x > 5 and [all y [x^2 + y^2 > 2 or y^2 = x] or some y x - 5 = 0]]")
        boards = (read_term("x - 5"), circle, parabola)
        self.assertEqual(settled(S)[1], (wall_of(boards),))
        S = ("some", "y", ("all", "x", ("or", ("is", boards[0], (0,)), ("is", circle, (1,)))))
        self.assertEqual(settled(S)[1], (wall_of((turned(boards[0]), turned(circle))),))
        self.assertEqual(settled(read_saying("[1 < 2 and not 3 = 4]")), ("true", ()))

    def test_the_same_part_twice(self):
        S = read_saying("some x x^2 = 2")
        self.assertEqual(settled(("and", S, S)), ("true", wall_twice(S)))
        self.assertEqual(settled(("and", S, ("not", S))), ("false", wall_twice(S)))

    def test_refused(self):
        for text in ("x = 0", "y > 0", "some x x = y", "some y x = y", "all x y > 0", "[some x x = 0 and y = 0]",
                     "not [0 = 0 or x = y]", "some x some y some x x = y", "some x some x x = 0",
                     "some x [some y x = y and y = 0]", "all x all y some x x > 0", "some x not some x x = 1",
                     "[some x x = 1 or some x [x = 1 and y = 1]]"):
            self.assertRaises(NoKind, settled, read_saying(text))

    def test_drawn(self):
        random = seeded(102)
        seen = []
        for plane in drawn_planes():
            for _ in range(4):
                S = drawn_closed(random, plane.boards, random.choice((1, 1, 2, 3)))
                seen.append(settled(S)[0])
                self.assertEqual(seen[-1], "true" if plane.holds(S) else "false", S)
        self.assertGreater(seen.count("true"), 40)
        self.assertGreater(seen.count("false"), 40)

    def test_some_and_all_agree_by_not(self):
        random = seeded(103)
        for plane in drawn_planes()[:15]:
            for letter in "xy":
                S = drawn_over(random, plane.boards, letter, random.choice((1, 2)))
                for one, other in (("some", "all"), ("all", "some")):
                    first = settled((one, letter, S))[0]
                    second = settled((other, letter, ("not", S)))[0]
                    self.assertNotEqual(first, second, S)

    def test_what_is_told_is_new(self):
        S = read_saying("all x some y y^3 = x")
        self.assertIsNot(settled(S)[1], settled(S)[1])
        self.assertEqual(settled(S), settled(S))
        self.assertEqual(S, read_saying("all x some y y^3 = x"))


def wall_twice(S):
    return (wall_of(boards_of(S)), wall_of(boards_of(S)))


def part(low, low_in, high, high_in):
    return (low, low_in, high, high_in)


ALL = (None, False, None, False)
BY_HAND = (
    ("x^2 < 0", ()),
    ("1 = 2", ()),
    ("[x < 0 and x > 0]", ()),
    ("x^2 >= 0", (ALL,)),
    ("0 = 0", (ALL,)),
    ("[x < 1 or x >= 1]", (ALL,)),
    ("[x^2 < 2 or x^2 >= 2]", (ALL,)),
    ("x^2 + 1 > 0", (ALL,)),
    ("x = 3", (part((3, 1), True, (3, 1), True),)),
    ("2*x = 1", (part((1, 2), True, (1, 2), True),)),
    ("x^2 = 2", (part(LESS, True, LESS, True), part(ROOT, True, ROOT, True))),
    ("[x^2 = 2 or x = 1]", (part(LESS, True, LESS, True), part((1, 1), True, (1, 1), True),
                            part(ROOT, True, ROOT, True))),
    ("x != 3", (part(None, False, (3, 1), False), part((3, 1), False, None, False))),
    ("x^2 != 2", (part(None, False, LESS, False), part(LESS, False, ROOT, False), part(ROOT, False, None, False))),
    ("x^2 < 2", (part(LESS, False, ROOT, False),)),
    ("x^2 <= 2", (part(LESS, True, ROOT, True),)),
    ("[x^2 <= 2 and x < 1]", (part(LESS, True, (1, 1), False),)),
    ("[x^2 < 2 and x >= 1]", (part((1, 1), True, ROOT, False),)),
    ("x^2 > 2", (part(None, False, LESS, False), part(ROOT, False, None, False))),
    ("x^2 >= 2", (part(None, False, LESS, True), part(ROOT, True, None, False))),
    ("x > 1", (part((1, 1), False, None, False),)),
    ("x >= 1", (part((1, 1), True, None, False),)),
    ("x < 1", (part(None, False, (1, 1), False),)),
    ("x <= 1", (part(None, False, (1, 1), True),)),
    ("[x <= 1 or [x >= 1 and x <= 2]]", (part(None, False, (2, 1), True),)),
    ("[x < 1 or [x > 1 and x <= 2]]", (part(None, False, (1, 1), False), part((1, 1), False, (2, 1), True))),
    ("[[x > 0 and x < 1] or [x > 1 and x < 2]]", (part((0, 1), False, (1, 1), False),
                                                  part((1, 1), False, (2, 1), False))),
    ("[[x > 0 and x < 1] or [x >= 1 and x < 2]]", (part((0, 1), False, (2, 1), False),)),
    ("[[x > 0 and x <= 1] or [x > 1 and x < 2]]", (part((0, 1), False, (2, 1), False),)),
    ("[x = 0 or x = 1]", (part((0, 1), True, (0, 1), True), part((1, 1), True, (1, 1), True))),
    ("[x = 0 or x > 1]", (part((0, 1), True, (0, 1), True), part((1, 1), False, None, False))),
    ("[x^2 > 0 and x < 5]", (part(None, False, (0, 1), False), part((0, 1), False, (5, 1), False))),
    ("[x^2 >= 0 and x < 5]", (part(None, False, (5, 1), False),)),
    ("some y y^2 = x", (part((0, 1), True, None, False),)),
    ("all y y^2 + x > 0", (part((0, 1), False, None, False),)),
    ("all y y^2 + x >= 0", (part((0, 1), True, None, False),)),
    ("some y x*y = 1", (part(None, False, (0, 1), False), part((0, 1), False, None, False))),
    ("all y x*y = 0", (part((0, 1), True, (0, 1), True),)),
    ("all y (x^2 - 2)*y = 0", (part(LESS, True, LESS, True), part(ROOT, True, ROOT, True))),
    ("some y (x^2 - 2)*y = 1", (part(None, False, LESS, False), part(LESS, False, ROOT, False),
                                part(ROOT, False, None, False))),
    ("some y x^2 + y^2 <= 2", (part(LESS, True, ROOT, True),)),
    ("some y x^2 + y^2 < 2", (part(LESS, False, ROOT, False),)),
    ("[some y x^2 + y^2 = 2 and x > 0]", (part((0, 1), False, ROOT, True),)),
    ("not some y x^2 + y^2 = 2", (part(None, False, LESS, False), part(ROOT, False, None, False))),
    ("some y [x^2 + y^2 = 2 and x = y]", (part((-1, 1), True, (-1, 1), True), part((1, 1), True, (1, 1), True))),
    ("some y [x*y = 2 and x = y]", (part(LESS, True, LESS, True), part(ROOT, True, ROOT, True))),
    ("some y y = 0", (ALL,)),
    ("all y y = 0", ()),
    ("some y [y > 0 and y = x^2]", (part(None, False, (0, 1), False), part((0, 1), False, None, False))),
)


class RegionsTold(unittest.TestCase):

    def told(self, S, letter):
        answer = region_of(S, letter)
        self.assertIs(type(answer), tuple)
        self.assertEqual(len(answer), 2)
        region, wall = answer
        boards = boards_of(S)
        self.assertEqual(wall, wall_of(boards if letter == "x" else tuple(turned(f) for f in boards)))
        self.is_region(region)
        return region

    def is_region(self, region):
        self.assertIs(type(region), tuple)
        for at, one in enumerate(region):
            self.assertIs(type(one), tuple)
            low, low_in, high, high_in = one
            for end, belongs in ((low, low_in), (high, high_in)):
                self.assertIs(type(belongs), bool)
                self.assertTrue(is_place(end) if end is not None else belongs is False)
            self.assertTrue(low is not None or at == 0)
            self.assertTrue(high is not None or at == len(region) - 1)
            if low is not None and high is not None:
                order = order_of(low, high)
                self.assertTrue(order == -1 or order == 0 and low_in and high_in and low == high)
            if at:
                order = order_of(region[at - 1][2], low)
                self.assertTrue(order == -1 or order == 0 and not region[at - 1][3] and not low_in)

    def test_by_hand(self):
        for text, region in BY_HAND:
            S = read_saying(text)
            answer = self.told(S, "x")
            self.assertTrue(same_region(answer, region), (text, answer))

    def test_by_hand_over_y(self):
        for text, region in BY_HAND:
            text = text.translate(str.maketrans("xy", "yx"))
            S = read_saying(text)
            answer = self.told(S, "y")
            self.assertTrue(same_region(answer, region), (text, answer))

    def test_unlike_along_both_letters(self):
        S = read_saying("some x [y = x^2 and x > 1]")
        self.assertTrue(same_region(self.told(S, "y"), (part((1, 1), False, None, False),)))
        S = read_saying("some y [y = x^2 and x > 1]")
        self.assertTrue(same_region(self.told(S, "x"), (part((1, 1), False, None, False),)))
        S = read_saying("some x [y = x^3 + 1 and x^2 <= 2]")
        low, high = (-2, 1), (4, 1)
        region = self.told(S, "y")
        self.assertEqual(len(region), 1)
        self.assertEqual((region[0][1], region[0][3]), (True, True))
        self.assertEqual([order_of(end, at) for end, at in ((region[0][0], low), (region[0][2], high))], [1, -1])

    def test_no_letter_at_all(self):
        for letter in "xy":
            self.assertEqual(self.told(read_saying("1 < 2"), letter), (ALL,))
            self.assertEqual(self.told(read_saying("not 1 < 2"), letter), ())

    def test_refused(self):
        for letter, text in (("x", "y = 0"), ("y", "x = 0"), ("x", "x = y"), ("y", "x = y"), ("x", "some x x = 0"),
                             ("y", "all y y = 0"), ("x", "some y some y x = y"), ("x", "some y some x x = y"),
                             ("x", "[some y x = y and y = 1]"), ("y", "[some x x = y or x = 1]"),
                             ("x", "not all y all y y > x"), ("x", "[x = 1 and some x x = y]")):
            self.assertRaises(NoKind, region_of, read_saying(text), letter)

    def test_drawn(self):
        random = seeded(104)
        for plane in drawn_planes()[10:]:
            for letter in "xy":
                S = drawn_over(random, plane.boards, letter, random.choice((1, 1, 2, 3)))
                self.agrees(plane, S, letter)

    def agrees(self, plane, S, letter):
        """A number of the plane that is no fraction is asked for by its place in the wall."""
        region, wall = region_of(S, letter)
        self.is_region(region)
        places = [X for X, heights in wall]
        every = [line if letter == "x" else (line[1], line[0], line[2]) for lines in plane.lines for line in lines]
        cuts = cuts_of(every)
        truths = dict(plane.truths(S, letter))
        for X in places:
            x = surd_of_place(X, cuts)
            if x in truths:
                self.assertIs(in_region(region, X), truths[x], (S, X))
        for x, truth in truths.items():
            if x.b == 0:
                self.assertIs(in_region(region, (x.a.numerator, x.a.denominator)), truth, (S, x))

    def test_what_is_told_is_new(self):
        S = read_saying("x^2 < 2")
        region, wall = region_of(S, "x")
        again = region_of(S, "x")
        self.assertEqual((region, wall), again)
        self.assertIsNot(region, again[0])
        self.assertIsNot(region[0][0], wall[1][0])
        self.assertIsNot(region_of(read_saying("x = 0"), "x")[0][0][0], wall_of((((0, 1),),))[1][0])
        self.assertTrue(is_fraction(region_of(read_saying("x = 0"), "x")[0][0][0]))


if __name__ == "__main__":
    unittest.main()
