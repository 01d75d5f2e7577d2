"""Points 25 and 3: to each question the true claim, with a paper that the checker takes, and takes for no other."""

import unittest

from lines import drawn_closed, drawn_over, drawn_plain, drawn_planes, plain_holds
from naive import random_row, seeded
from planestacks.boards import board_times
from planestacks.checker import holds
from planestacks.errors import NoKind, NoRow
from planestacks.papers import paper_parted, paper_points, paper_region, paper_roots, paper_settled, paper_where
from planestacks.questions import common_points, parted, where_said
from planestacks.roots import roots_of
from planestacks.sayings import boards_of
from planestacks.sayingtexts import read_saying
from planestacks.terms import read_term
from planestacks.truth import region_of, settled
from planestacks.walls import wall_of


def tuples_in(thing):
    """The places in memory of all tuples and lists in a thing but (), which is one only."""
    if not isinstance(thing, (tuple, list)):
        return set()
    return {id(thing)} - {id(())} | {at for part in thing for at in tuples_in(part)}


class Papers(unittest.TestCase):

    def taken(self, answer, claim, paper):
        self.assertIs(type(answer), tuple)
        self.assertEqual(answer, (claim, paper))
        self.assertIs(type(answer[0]), tuple)
        self.assertIs(holds(*answer), True, claim)
        self.assertIs(holds(claim, paper), True, claim)

    def test_roots(self):
        for row in ((7,), (-1,), (1, 0, 1), (0, 1), (-2, 0, 1), (0, -2, 0, 1), (4, 0, -4, 0, 1), (-6, 11, -6, 1),
                    (10 ** 12, -10 ** 12, 3, 0, 5, 10 ** 12, 7, 1, -10 ** 12)):
            self.taken(paper_roots(row), ("roots", row, tuple(roots_of(row))), None)
        self.assertEqual(paper_roots((1, 0, 1)), (("roots", (1, 0, 1), ()), None))
        self.assertRaises(NoRow, paper_roots, ())

    def test_settled(self):
        for text, word, many in (("some x x^2 = 2", "true", 1), ("all x x^2 = 2", "false", 1), ("1 < 2", "true", 0),
                                 ("1 > 2", "false", 0), ("all y some x y = x^3", "true", 1),
                                 ("all y some x y = x^2", "false", 1),
                                 ("[some x x^2 = 2 and [all y y^2 >= 0 or some y some x x < y]]", "true", 3),
                                 ("[some x x^2 < 0 or not [all y some x y = x and 1 = 1]]", "false", 2)):
            S = read_saying(text)
            walls = settled(S)[1]
            self.assertEqual(len(walls), many)
            self.taken(paper_settled(S), (word, S), walls)
        for text in ("x = 0", "some x x = y", "some x some x x = 0"):
            self.assertRaises(NoKind, paper_settled, read_saying(text))

    def test_where(self):
        for text in ("x = y", "[x^2 = 2 and y^2 = x]", "x^2 + y^2 = 0", "0 = 0"):
            S = read_saying(text)
            word, X, Y = where_said(S)
            self.taken(paper_where(S), ("holds", S, X, Y), None)
        for text in ("x^2 + y^2 < 0", "[x^2 = 2 and x^3 = 2]", "0 = 1"):
            S = read_saying(text)
            word, wall = where_said(S)
            self.taken(paper_where(S), ("nowhere", S), wall)
        self.assertRaises(NoKind, paper_where, read_saying("some x x = y"))

    def test_parted(self):
        for one, other in (("x < y", "x <= y"), ("x^2 + y^2 = 0", "0 = 1"), ("x^2 = 2", "x = 1")):
            S, T = read_saying(one), read_saying(other)
            word, X, Y = parted(S, T)
            self.taken(paper_parted(S, T), ("unlike", S, T, X, Y), None)
        for one, other in (("x < y", "not y <= x"), ("x*y = 0", "[x = 0 or y = 0]"), ("x = 0", "x = 0")):
            S, T = read_saying(one), read_saying(other)
            word, wall = parted(S, T)
            self.taken(paper_parted(S, T), ("alike", S, T), wall)
        plain, bound = read_saying("x = y"), read_saying("some x x = y")
        self.assertRaises(NoKind, paper_parted, plain, bound)
        self.assertRaises(NoKind, paper_parted, bound, plain)

    def test_points(self):
        for one, other in (("x^2 - 2", "y^2 - x"), ("x", "x - 1"), ("x^2 + y^2", "0"), ("x^2 + y^2 - 2", "x - y")):
            f, g = read_term(one), read_term(other)
            word, spots, wall = common_points(f, g)
            self.assertEqual(word, "points")
            self.taken(paper_points(f, g), ("points", f, g, tuple(spots)), wall)
        for one, other in (("x", "x"), ("0", "0"), ("x*y", "y"), ("(x^2 - 2)*y", "x^2 - 2")):
            f, g = read_term(one), read_term(other)
            self.taken(paper_points(f, g), ("endless", f, g), common_points(f, g)[3])

    def test_region(self):
        for letter, text in (("x", "x^2 < 2"), ("y", "some x x = y^2"), ("x", "x^2 < 0"), ("y", "y != 1"),
                             ("x", "1 = 1"),
                             ("y", "some x [x^2 + y^2 = 2 and x > 0]")):
            S = read_saying(text)
            region, wall = region_of(S, letter)
            self.taken(paper_region(S, letter), ("region", S, letter, region), wall)
        self.assertRaises(NoKind, paper_region, read_saying("x = y"), "x")
        self.assertRaises(NoKind, paper_region, read_saying("x = 0"), "y")

    def test_what_is_told_is_new(self):
        row, f, g = (0, -2, 0, 1), read_term("x^2 - 2"), read_term("y^2 - x")
        S, T = read_saying("[x^2 = 2 and not [y^2 = x or x < y]]"), read_saying("[x^2 = 2 and [y^2 != x and x >= y]]")
        closed = read_saying("all x some y [y = x and not x^2 = 2]")
        over = read_saying("some y [y = x and not x^2 = 2]")
        nowhere = ("and", S, ("not", S))
        for ask, handed in ((paper_roots, (row,)), (paper_settled, (closed,)), (paper_where, (S,)),
                            (paper_where, (nowhere,)), (paper_parted, (S, T)), (paper_parted, (S, nowhere)),
                            (paper_points, (f, g)), (paper_points, (f, f)), (paper_region, (over, "x"))):
            before = repr(handed)
            answer = ask(*handed)
            self.assertEqual(tuples_in(answer[0]) & tuples_in(handed), set(), handed)
            self.assertEqual(tuples_in(answer[1]) & tuples_in(handed), set(), handed)
            self.assertEqual(answer, ask(*handed))
            self.assertIsNot(answer[0], ask(*handed)[0])
            self.assertEqual(repr(handed), before)

    def test_sayings_deep_within_one_another(self):
        S = read_saying("x^2 < 0")
        for _ in range(95):
            S = ("or", read_saying("y^2 < 0"), S)
        self.taken(paper_where(S), ("nowhere", S), where_said(S)[1])


def wrong_walls(random, wall):
    """The wall, and it with something left out, exchanged or more."""
    yield wall
    at = random.randrange(len(wall))
    X, heights = wall[at]
    yield wall[:at] + wall[at + 1:]
    yield wall[:at] + wall[at + 2:]
    yield wall[:1]
    yield wall[:at] + ((X, heights[1:]),) + wall[at + 1:]
    yield wall[:at] + ((X, heights[:-1]),) + wall[at + 1:]
    yield wall[:at] + ((X, ()),) + wall[at + 1:]
    yield wall[:at] + ((X, heights + heights),) + wall[at + 1:]
    yield tuple((X, ()) for X, heights in wall)
    yield tuple((X, heights[1:]) for X, heights in wall)
    yield wall[::-1]
    yield wall_of(())


class Drawn(unittest.TestCase):
    """What the house tells is taken; what isn't true, by another reckoning, is not, whatever wall stands with it."""

    def refused(self, random, claim, wall, paper_of=lambda wall: wall):
        for other in wrong_walls(random, wall):
            self.assertIs(holds(claim, paper_of(other)), False, claim)
        self.assertIs(holds(claim, None), False)

    def test_settled(self):
        random = seeded(121)
        for plane in drawn_planes():
            S = drawn_closed(random, plane.boards, random.choice((1, 2)))
            claim, walls = paper_settled(S)
            self.assertEqual(claim[0], "true" if plane.holds(S) else "false")
            self.assertIs(holds(claim, walls), True)
            other = ("false" if claim[0] == "true" else "true", S)
            for at, wall in enumerate(walls):
                self.refused(random, other, wall, lambda wall, at=at: walls[:at] + (wall,) + walls[at + 1:])

    def test_where(self):
        random = seeded(122)
        for plane in drawn_planes():
            S = drawn_plain(random, plane.boards, random.randint(1, 5))
            claim, paper = paper_where(S)
            self.assertIs(holds(claim, paper), True)
            truths = [plain_holds(S, signs) for signs in plane.pieces()]
            self.assertEqual(claim[0], "holds" if any(truths) else "nowhere")
            for T, held in ((S, any(truths)), (("not", S), not all(truths))):
                if held:
                    self.refused(random, ("nowhere", T), wall_of(tuple(plane.boards)))
                    self.refused(random, ("nowhere", T), wall_of(boards_of(T)))
                elif claim[0] == "holds":
                    self.assertIs(holds(("holds", T, claim[2], claim[3]), None), False)

    def test_parted(self):
        random = seeded(123)
        for plane in drawn_planes():
            many = random.randint(1, 3)
            S, T = drawn_plain(random, plane.boards, many), drawn_plain(random, plane.boards, many)
            claim, paper = paper_parted(S, T)
            self.assertIs(holds(claim, paper), True)
            if claim[0] == "unlike":
                self.refused(random, ("alike", S, T), wall_of(boards_of(("and", S, T))))
                self.assertIs(holds(("unlike", S, S, claim[3], claim[4]), None), False)
            else:
                self.refused(random, ("alike", S, ("not", T)), paper)
                self.assertIs(holds(("unlike", S, T, (0, 1), (0, 1)), None), False)

    def test_points(self):
        random = seeded(124)
        for plane in drawn_planes():
            f, g = random.choice(plane.boards), random.choice(plane.boards)
            claim, paper = paper_points(f, g)
            self.assertIs(holds(claim, paper), True)
            if claim[0] == "endless":
                self.refused(random, ("points", f, g, ()), paper)
                continue
            self.refused(random, ("endless", f, g), paper)
            for at in range(len(claim[3])):
                self.refused(random, ("points", f, g, claim[3][:at] + claim[3][at + 1:]), paper)
                self.refused(random, ("points", f, g, claim[3][:at] + claim[3][at:at + 1] + claim[3][at:]), paper)

    def test_region(self):
        random = seeded(125)
        for plane in drawn_planes():
            letter = random.choice("xy")
            S = drawn_over(random, plane.boards, letter, random.choice((1, 2)))
            claim, paper = paper_region(S, letter)
            region = claim[3]
            self.assertIs(holds(claim, paper), True)
            self.refused(random, ("region", ("not", S), letter, region), paper)
            self.refused(random, ("region", S, letter, region + ((None, False, None, False),)), paper)
            for at, (low, low_in, high, high_in) in enumerate(region):
                for other in ((), ((None, False, high, high_in),), ((low, low_in, None, False),),
                              ((low, not low_in, high, high_in),), ((low, low_in, high, not high_in),)):
                    if other != region[at:at + 1]:
                        self.refused(random, ("region", S, letter, region[:at] + other + region[at + 1:]), paper)

    def test_roots(self):
        random = seeded(126)
        for _ in range(30):
            row = random_row(random, random.randint(0, 8), random.choice((2, 9, 10 ** 12)))
            claim, paper = paper_roots(row)
            self.assertIs(holds(claim, paper), True)
            self.assertIs(holds(claim, ()), False)
            self.assertIs(holds(("roots", row, claim[2] + ((10 ** 20, 1),)), None), False)
            for at in range(len(claim[2])):
                self.assertIs(holds(("roots", row, claim[2][:at] + claim[2][at + 1:]), None), False)
                self.assertIs(holds(("roots", row, claim[2][:at] + claim[2][at:at + 1] + claim[2][at:]), None), False)


class UpToTheBounds(unittest.TestCase):

    def board(self, random, size, powers):
        return tuple(random_row(random, powers, size) for _ in range(powers + 1))

    def taken(self, answer, others):
        claim, paper = answer
        self.assertIs(holds(claim, paper), True, claim)
        for other in others:
            self.assertIs(holds(other, paper), False, other)

    def test_curves_of_small_numbers(self):
        random = seeded(127)
        curves = [read_term(text) for text in ("x^2 + y^2 - 2", "y^2 - x^3", "y^2 - x", "x*y - 1", "x^4 + y^4 - 3",
                                               "x - y",
                                               "x^2 - 2", "y^3 - x*y + 1", "x^2*y^2 - 2", "y^4 - 2*x^2 + x")]
        for _ in range(12):
            f, g = random.choice(curves), random.choice(curves)
            h = board_times(random.choice(curves[5:7]), random.choice(curves[2:4]))
            S = ("and", ("is", f, (-1, 0)), ("or", ("is", g, (0,)), ("not", ("is", h, (0, 1)))))
            first = settled(("some", "x", ("all", "y", S)))[0]
            second = settled(("all", "x", ("some", "y", ("not", S))))[0]
            self.assertNotEqual(first, second)
            self.taken(paper_settled(("some", "x", ("all", "y", S))), [(second, ("some", "x", ("all", "y", S)))])
            self.taken(paper_where(S), [("nowhere", ("not", S))])
            claim, paper = paper_points(f, g)
            self.taken((claim, paper), [("points", f, g, claim[3][1:])] if claim[-1:] != ((),) and claim[0] == "points" else [])
            claim, paper = paper_region(("all", "x", S), "y")
            self.taken((claim, paper), [("region", ("some", "x", ("not", S)), "y", claim[3])])

    def test_two_boards_of_the_greatest_numbers(self):
        random = seeded(128)
        f, g = self.board(random, 10 ** 6, 4), self.board(random, 10 ** 6, 4)
        claim, paper = paper_points(f, g)
        self.assertEqual(claim[0], "points")
        self.taken((claim, paper), [("endless", f, g), ("points", f, g, claim[3] + claim[3][-1:])])
        S = ("and", ("is", f, (0,)), ("is", g, (0,)))
        self.taken(paper_where(S), [("nowhere", S)])
        self.taken(paper_settled(("all", "y", ("some", "x", ("or", S, ("is", f, (1,)))))), [])

    def test_four_boards_and_eight_parts(self):
        random = seeded(129)
        boards = [self.board(random, 10 ** 6, 2) for _ in range(3)] + [self.board(random, 10 ** 6, 4)]
        S = ("is", boards[0], (1,))
        for at in range(1, 8):
            S = (("and", "or")[at % 2], S, ("is", boards[at % 4], ((-1,), (0, 1), (-1, 1))[at % 3]))
        claim, walls = paper_settled(("some", "x", ("all", "y", S)))
        self.taken((claim, walls), [("true" if claim[0] == "false" else "false", claim[1])])


if __name__ == "__main__":
    unittest.main()
