"""Points 23 and 3: where sayings hold, where two of them part, and the common points of two boards."""

import unittest

from kinds import is_fraction
from lines import crossing, drawn_plain, drawn_planes, plain_holds, signs_told, spot_told
from naive import seeded
from planestacks.above import is_height, sign_above
from planestacks.boards import board_times, turned
from planestacks.errors import NoKind
from planestacks.places import is_place, order_of
from planestacks.questions import common_points, parted, where_said
from planestacks.sayings import boards_of
from planestacks.sayingtexts import read_saying
from planestacks.terms import read_term
from planestacks.truth import settled, true_at
from planestacks.walls import wall_of
from surds import TWO

ROOT = (TWO, (1, 1), (2, 1))

SOMEWHERE = """
x = 0
x > 3
y != 0
x^2 + y^2 < 1
x^2 + y^2 <= 0
x^2 + y^2 = 0
x^2 + y^2 = 2
[x^2 + y^2 = 2 and x = y]
[x^2 + y^2 = 2 and [x = y and x < 0]]
[x^2 = 2 and y^2 = x]
[x^2 = 2 and [y^2 = x and y < 0]]
[x^2 = 2 and [y^2 = x and y^4 = 2]]
[x^2 = 2 and [x > 0 and x*y = 2]]
[x^2 = 2 and (x^2 - 2)*y = 0]
[x*y = 0 and y = 5]
[y^2 = x^3 and [x = 4 and y < 0]]
not x = y
[x < y and not x + 1 < y]
0 = 0
"""

NOWHERE = """
x^2 < 0
x^2 + y^2 < 0
[x^2 + y^2 <= 0 and x > 0]
[x = y and x != y]
[x^2 + y^2 = 2 and x + y > 2]
[x^2 = 2 and [y^2 = x and y^4 != 2]]
[x^2 = 2 and [x > 0 and [x*y = 2 and y != x]]]
[x^2 = 2 and x^3 = 2]
not 0 = 0
1 < 0
[x*y = 1 and x = 0]
[(x^2 - 2)*y > 0 and x^2 = 2]
"""


def rows(text):
    return [read_saying(row) for row in text.split("\n") if row]


class WhereSaid(unittest.TestCase):

    def told(self, S):
        answer = where_said(S)
        self.assertIs(type(answer), tuple)
        if answer[0] == "nowhere":
            self.assertEqual(answer, ("nowhere", wall_of(boards_of(S))))
            return None
        word, X, Y = answer
        self.assertEqual(word, "somewhere")
        self.assertTrue(is_place(X))
        self.assertTrue(is_height(Y, X))
        self.assertIs(true_at(S, X, Y), True, S)
        return X, Y

    def test_somewhere(self):
        for S in rows(SOMEWHERE):
            self.assertIsNotNone(self.told(S), S)

    def test_nowhere(self):
        for S in rows(NOWHERE):
            self.assertIsNone(self.told(S), S)
            self.assertIsNotNone(self.told(("not", S)), S)

    def test_the_one_spot(self):
        X, Y = self.told(read_saying("x^2 + y^2 = 0"))
        self.assertEqual((order_of(X, (0, 1)), sign_above(read_term("y"), X, Y)), (0, 0))
        X, Y = self.told(read_saying("[x^2 = 2 and [x > 0 and [y^2 = x and y > 0]]]"))
        self.assertEqual(order_of(X, ROOT), 0)
        self.assertEqual([sign_above(read_term(text), X, Y) for text in ("y^4 - 2", "y - 1", "y - 2")], [0, 1, -1])

    def test_refused(self):
        for text in ("some x x = y", "all y y > 0", "not some x x = 0", "[x = 0 and some y y = x]",
                     "[all x x = 0 or x = 0]"):
            self.assertRaises(NoKind, where_said, read_saying(text))

    def test_drawn(self):
        random = seeded(111)
        found = []
        for plane in drawn_planes():
            for many in (2, 4, 6):
                S = drawn_plain(random, plane.boards, many)
                spot = self.told(S)
                found.append(spot is None)
                self.assertIs(spot is not None, any(plain_holds(S, signs) for signs in plane.pieces()), S)
                if spot is not None:
                    self.assertTrue(plain_holds(S, signs_told(plane, *spot)), S)
                    self.assertEqual(settled(("some", "y", ("some", "x", S)))[0], "true")
                else:
                    self.assertEqual(settled(("some", "y", ("some", "x", S)))[0], "false")
        self.assertGreater(sum(found), 5)


class Parted(unittest.TestCase):

    def told(self, S, T):
        answer = parted(S, T)
        self.assertIs(type(answer), tuple)
        if answer[0] == "alike":
            self.assertEqual(answer, ("alike", wall_of(boards_of(("and", S, T)))))
            return None
        word, X, Y = answer
        self.assertEqual(word, "unlike")
        self.assertTrue(is_place(X))
        self.assertTrue(is_height(Y, X))
        self.assertIsNot(true_at(S, X, Y), true_at(T, X, Y))
        return X, Y

    def test_alike(self):
        for one, other in (
                ("x < y", "y > x"), ("x < y", "not x >= y"), ("x = y", "2*x = 2*y"), ("x < 0", "x^3 < 0"),
                ("x^2 + y^2 = 0", "[x = 0 and y = 0]"), ("x*y = 0", "[x = 0 or y = 0]"), ("x^2 < 0", "y^2 < 0"),
                ("x*y > 0", "[[x > 0 and y > 0] or [x < 0 and y < 0]]"), ("0 = 0", "x^2 >= 0"),
                ("x^2 = 2", "[x^2 = 2 and x^4 = 4]"), ("not [x < y and y < x]", "1 = 1"),
                ("[x^2 = 2 and [y^2 = x and x > 0]]", "[y^4 = 2 and y^2 = x]")):
            self.assertIsNone(self.told(read_saying(one), read_saying(other)), (one, other))
            self.assertIsNone(self.told(read_saying(other), read_saying(one)), (one, other))

    def test_unlike(self):
        for one, other in (
                ("x < y", "x <= y"), ("x < y", "y < x"), ("x^2 + y^2 = 0", "x = 0"), ("x^2 + y^2 > 0", "0 = 0"),
                ("x^2 = 2", "x^4 = 5"), ("x*y = 0", "x = 0"), ("x^2 != 2", "1 = 1"), ("x = 0", "not x = 0"),
                ("[x^2 = 2 and y^2 = x]", "[x^2 = 2 and [y^2 = x and y > 0]]")):
            self.assertIsNotNone(self.told(read_saying(one), read_saying(other)), (one, other))
            self.assertIsNotNone(self.told(read_saying(other), read_saying(one)), (one, other))

    def test_parted_in_one_point_alone(self):
        X, Y = self.told(read_saying("[x = 1 and y = 2]"), read_saying("1 = 2"))
        self.assertEqual((order_of(X, (1, 1)), sign_above(read_term("y - 2"), X, Y)), (0, 0))
        X, Y = self.told(read_saying("(x^2 - 2)^2 + (y - 1)^2 > 0"), read_saying("x != 2"))
        self.assertIsNotNone(X)
        X, Y = self.told(read_saying("[(x^2 - 2)^2 + (y - 1)^2 > 0 or x < 0]"), read_saying("0 = 0"))
        self.assertEqual((order_of(X, ROOT), sign_above(read_term("y - 1"), X, Y)), (0, 0))

    def test_the_wall_has_the_boards_of_both(self):
        S, T = read_saying("[x*y > 0 and y < 7]"), read_saying("[y < 7 and [x > 0 and y > 0]]")
        self.assertIsNotNone(self.told(S, T))
        T = read_saying("[y < 7 and [[x > 0 and y > 0] or [x < 0 and y < 0]]]")
        self.assertEqual(parted(S, T), ("alike", wall_of(tuple(read_term(f) for f in ("x*y", "y - 7", "x", "y")))))
        self.assertEqual(parted(T, S), ("alike", wall_of(tuple(read_term(f) for f in ("y - 7", "x", "y", "x*y")))))

    def test_refused(self):
        plain = read_saying("x = 0")
        for text in ("some x x = y", "all y y > 0", "[x = 0 and some y y = x]"):
            self.assertRaises(NoKind, parted, read_saying(text), plain)
            self.assertRaises(NoKind, parted, plain, read_saying(text))
            self.assertRaises(NoKind, parted, read_saying(text), read_saying(text))

    def test_drawn(self):
        random = seeded(112)
        found = []
        for plane in drawn_planes():
            for many in (1, 3):
                S, T = drawn_plain(random, plane.boards, many), drawn_plain(random, plane.boards, many)
                for one, other in ((S, T), (S, ("not", ("not", S))), (("and", S, T),
                                                                      ("not", ("or", ("not", S), ("not", T))))):
                    spot = self.told(one, other)
                    found.append(spot is None)
                    parts = [plain_holds(one, signs) != plain_holds(other, signs) for signs in plane.pieces()]
                    self.assertIs(spot is not None, any(parts), (one, other))
                    if spot is not None:
                        signs = signs_told(plane, *spot)
                        self.assertNotEqual(plain_holds(one, signs), plain_holds(other, signs))
        self.assertGreater(sum(found), 60)


def both_nought(f, g, X, Y):
    return sign_above(f, X, Y) == 0 and sign_above(g, X, Y) == 0


class CommonPoints(unittest.TestCase):

    def told(self, f, g):
        """Asked in both orders; the points, or None where they have no end."""
        answer = self.told_so(f, g)
        again = self.told_so(g, f)
        self.assertEqual(answer is None, again is None)
        if answer is not None:
            self.assertEqual(len(answer), len(again))
        return answer

    def told_so(self, f, g):
        answer = common_points(f, g)
        self.assertIs(type(answer), tuple)
        wall = wall_of((f,) if f == g else (f, g))
        self.assertEqual(answer[-1], wall)
        if answer[0] == "endless":
            self.assertEqual(len(answer), 4)
            self.is_no_point(answer[1], answer[2], wall)
            self.assertTrue(both_nought(f, g, answer[1], answer[2]))
            return None
        self.assertEqual(answer[0], "points")
        self.assertEqual(len(answer), 3)
        self.are_points(f, g, answer[1])
        return answer[1]

    def is_no_point(self, X, Y, wall):
        places = [place for place, heights in wall]
        self.assertIn(X, places)
        self.assertTrue(places.index(X) % 2 == 0 or Y not in wall[places.index(X)][1])
        if places.index(X) % 2:
            self.assertTrue(is_fraction(Y))

    def are_points(self, f, g, spots):
        self.assertIs(type(spots), list)
        for at, spot in enumerate(spots):
            self.assertIs(type(spot), tuple)
            X, Y = spot
            self.assertTrue(is_place(X))
            self.assertTrue(is_height(Y, X))
            self.assertTrue(both_nought(f, g, X, Y))
            if at:
                order = order_of(spots[at - 1][0], X)
                self.assertTrue(order == -1 or order == 0 and self.is_below(spots[at - 1], spot))

    def is_below(self, one, other):
        """Heights of one place of one wall are kept apart."""
        end = one[1] if len(one[1]) == 2 else one[1][2]
        begin = other[1] if len(other[1]) == 2 else other[1][1]
        return one[0] == other[0] and end[0] * begin[1] <= begin[0] * end[1] and one[1] != other[1]

    def points(self, one, other):
        return self.told(read_term(one), read_term(other))

    def test_none(self):
        for one, other in (("x^2 + y^2 - 1", "x - 2"), ("x", "x - 1"), ("x^2 + 1", "y"), ("1", "x"), ("1", "2"),
                           ("1", "0"), ("1", "1"), ("y", "y - 1"), ("x*y - 1", "x"), ("y^2 + 1", "y^2 + 1"),
                           ("x^2 + y^2 + 1", "0"), ("x^2 + y^2", "x - 1")):
            self.assertEqual(self.points(one, other), [], (one, other))

    def test_at_fractions(self):
        for one, other, spots in (
                ("x^2 + y^2 - 2", "x - y", [(-1, -1), (1, 1)]),
                ("y - x^2", "y - 4", [(-2, 4), (2, 4)]),
                ("y - x^2", "y", [(0, 0)]),
                ("y - x^2", "y - 2*x + 1", [(1, 1)]),
                ("x", "y", [(0, 0)]),
                ("x", "y^3 - y", [(0, -1), (0, 0), (0, 1)]),
                ("x^2 - x", "y^2 - y", [(0, 0), (0, 1), (1, 0), (1, 1)]),
                ("x^2 + y^2", "x^2 + y^2", [(0, 0)]),
                ("x^2 + y^2", "0", [(0, 0)]),
                ("x^2 + y^2", "x - y", [(0, 0)]),
                ("x^2 + y^2 - 25", "x*y - 12", [(-4, -3), (-3, -4), (3, 4), (4, 3)]),
                ("x*y", "x + y - 1", [(0, 1), (1, 0)]),
                ("x*(y - 1)", "y*(x - 1)", [(0, 0), (1, 1)])):
            points = self.points(one, other)
            self.assertEqual([(order_of(X, (x, 1)), sign_above(((-y,), (1,)) if y else ((), (1,)), X, Y))
                              for (X, Y), (x, y) in zip(points, spots)], [(0, 0)] * len(spots), (one, other))
            self.assertEqual(len(points), len(spots))
            self.assertEqual(len(self.told(turned(read_term(one)), turned(read_term(other)))), len(spots))

    def test_at_no_fractions(self):
        (one, low), (other, high) = self.points("x^2 - 2", "x*y - 2")
        self.assertEqual([order_of(one, ROOT), order_of(other, ROOT)], [-1, 0])
        self.assertEqual(sign_above(read_term("y - x"), other, high), 0)
        self.assertEqual(sign_above(read_term("y - x"), one, low), 0)
        points = self.points("x^2 + y^2 - 3", "x*y - 1")
        self.assertEqual(len(points), 4)
        points = self.points("x^2 - 2", "y^2 - 2")
        self.assertEqual([(sign_above(read_term("x"), X, Y), sign_above(read_term("y"), X, Y)) for X, Y in points],
                         [(-1, -1), (-1, 1), (1, -1), (1, 1)])
        self.assertEqual(len(self.points("x^2 - 2", "y^2 - x")), 2)
        self.assertEqual(len(self.points("x^2 + y^2 - 1", "y - x^2")), 2)
        # They touch above the square root of 2.
        points = self.points("(x^2 - 2)^2 - y", "y")
        self.assertEqual([order_of(X, ROOT) for X, Y in points], [-1, 0])

    def test_endless(self):
        for one, other in (("x", "x"), ("y", "y"), ("x - y", "x - y"), ("x^2 + y^2 - 1", "x^2 + y^2 - 1"), ("0", "0"),
                           ("0", "x"), ("0", "y"), ("x*y", "x"), ("x*y", "y"), ("x*y", "x*(y - 1)"),
                           ("(x - y)*(x + y)", "(x - y)*x"), ("(x^2 - 2)*y", "x^2 - 2"),
                           ("(x^2 - 2)*y", "(x^2 - 2)*(y - 1)"),
                           ("2*x - 2*y", "y - x"), ("x^2", "x"), ("(x^2 + y^2 - 1)*(x - 5)", "(x^2 + y^2 - 1)*y"),
                           ("0", "x^2 + y^2 - 1"), ("(x^2 - 2)*(x^2 + y^2)", "x^4 - 4")):
            self.assertIsNone(self.points(one, other), (one, other))

    def test_an_upright_line_or_points_on_it(self):
        X, Y = common_points(read_term("x*y"), read_term("x*(y - 1)"))[1:3]
        self.assertEqual(order_of(X, (0, 1)), 0)
        X, Y = common_points(read_term("(x^2 - 2)*y"), read_term("(x^2 - 2)*(x + 5)"))[1:3]
        self.assertEqual(sign_above(read_term("x^2 - 2"), X, Y), 0)
        self.assertEqual([order_of(X, (0, 1)) for X, Y in self.points("x*y", "x^2 + y^2 - 1")], [-1, 0, 0, 1])

    def test_drawn(self):
        random = seeded(113)
        seen = []
        for plane in drawn_planes():
            for _ in range(2):
                at, to = random.randrange(len(plane.boards)), random.randrange(len(plane.boards))
                points = self.told(plane.boards[at], plane.boards[to])
                seen.append(points is None)
                self.agrees(plane, plane.lines[at], plane.lines[to], points)
        self.assertGreater(sum(seen), 10)
        self.assertGreater(len(seen) - sum(seen), 10)

    def agrees(self, plane, lines, others, points):
        spots = [crossing(one, other) for one in lines for other in others]
        alike = [one for one in lines for other in others
                 if crossing(one, other) is None and all(one[k] * other[2] == one[2] * other[k] for k in (0, 1))]
        self.assertEqual(points is None, alike != [])
        if points is not None:
            spots = sorted({spot for spot in spots if spot is not None})
            self.assertEqual([spot_told(plane, X, Y) for X, Y in points], spots)

    def test_drawn_with_what_both_share(self):
        random = seeded(114)
        for _ in range(20):
            f, g, h = [read_term(random.choice(("x - y", "x^2 - 2", "y^2 - x", "x^2 + y^2", "x^2 + y^2 - 2", "y",
                                                "x + 1",
                                                "x*y - 1", "x^2 + 1", "3"))) for _ in range(3)]
            points = self.told(board_times(f, h), board_times(g, h))
            alone = common_points(h, h)
            if alone[0] == "endless":
                self.assertIsNone(points)
            else:
                inner = common_points(f, g)
                self.assertEqual(points is None, inner[0] == "endless")

    def test_what_is_told_is_new(self):
        f, g = read_term("x^2 - 2"), read_term("y^2 - 2")
        word, spots, wall = common_points(f, g)
        spots.clear()
        self.assertEqual(len(common_points(f, g)[1]), 4)
        self.assertEqual((f, g), (read_term("x^2 - 2"), read_term("y^2 - 2")))
        self.assertIsNot(common_points(f, g)[1], common_points(f, g)[1])


if __name__ == "__main__":
    unittest.main()
