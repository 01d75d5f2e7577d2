"""Point 24: the checker takes what is true with its paper, and nothing else."""

import ast
import unittest
from pathlib import Path

from kinds import Odd, things
from naive import number, pair
from planestacks.boards import turned
from planestacks.checker import holds
from planestacks.papers import paper_parted, paper_points, paper_region, paper_roots, paper_settled, paper_where
from planestacks.sayings import boards_of
from planestacks.sayingtexts import read_saying
from planestacks.terms import read_term
from planestacks.walls import wall_of
from retold import other_heights, other_heights_of, other_places, other_wall
from surds import TWO

ROOT = (TWO, (1, 1), (2, 1))
LESS = (TWO, (-2, 1), (-1, 1))
PACKAGE = Path(__file__).resolve().parent.parent / "planestacks"


def walls_boards(claim):
    """The boards of each wall that is the paper of a claim."""
    word = claim[0]
    if word in ("true", "false"):
        return bound_boards(claim[1])
    if word == "nowhere":
        return [boards_of(claim[1])]
    if word == "alike":
        return [boards_of(("and", claim[1], claim[2]))]
    if word in ("points", "endless"):
        return [claim[1:2] if claim[1] == claim[2] else claim[1:3]]
    boards = boards_of(claim[1])
    return [boards if claim[2] == "x" else tuple(turned(f) for f in boards)]


def bound_boards(S):
    if S[0] in ("some", "all"):
        boards = boards_of(S[2])
        return [boards if S[1] == "x" else tuple(turned(f) for f in boards)]
    return [] if S[0] == "is" else [boards for T in S[1:] for boards in bound_boards(T)]


def papers():
    """Claims of each word with their papers."""
    settle = ("some x x^2 = 2", "all x some y y^2 = x", "all y some x y^2 = x", "some x all y x*y = 0", "1 < 2",
              "2 < 1",
              "[some x [x^2 = 2 and some y [y^2 = x and y > 0]] and not all y y^2 > 0]", "some y some x x^2 + y^2 < 0",
              "all x [x^2 != 2 or some y x*y = 2]", "[0 = 1 or some x some y [x^2 + y^2 = 2 and x = y]]")
    where = ("x^2 + y^2 < 0", "[x^2 = 2 and y^2 = x]", "x = y", "[x^2 + y^2 = 1 and x > 1]",
             "[(x^2 - 2)*y > 0 and x^2 = 2]")
    same = (("x < y", "not y <= x"), ("x < y", "x <= y"), ("x*y = 0", "[x = 0 or y = 0]"), ("x^2 = 2", "x^4 = 5"),
            ("0 = 0", "x^2 >= 0"))
    points = (("x^2 + y^2 - 2", "x - y"), ("x^2 - 2", "y^2 - x"), ("x", "y^3 - y"), ("x*y", "x"), ("x", "x"),
              ("0", "0"),
              ("x^2 + y^2", "x^2 + y^2"), ("x", "x - 1"), ("(x^2 - 2)*y", "x^2 - 2"), ("0", "y^2 - x"),
              ("x^2 - 2", "y^2 - 2"))
    region = (("x", "x^2 < 2"), ("x", "some y x^2 + y^2 <= 2"), ("y", "some x x = y^2"), ("y", "y != 1"),
              ("x", "x^2 = 2"),
              ("x", "x^2 < 0"), ("x", "x = 3"), ("x", "all y x*y = 0"), ("y", "[y^2 = 2 or y > 5]"), ("x", "x^2 != 2"),
              ("y", "some x y*x = 1"), ("x", "[x >= 0 and x^2 < 2]"))
    rows = ((0, -2, 0, 1), (1, 0, 1), (7,), (-2, 0, 1), (0, 0, 1), (4, 0, -4, 0, 1), (0, 1), (-6, 11, -6, 1))
    found = [paper_roots(row) for row in rows]
    found += [paper_settled(read_saying(text)) for text in settle]
    found += [paper_where(read_saying(text)) for text in where]
    found += [paper_parted(read_saying(one), read_saying(other)) for one, other in same]
    found += [paper_points(read_term(one), read_term(other)) for one, other in points]
    return found + [paper_region(read_saying(text), letter) for letter, text in region]


WORDS = ("roots", "true", "false", "holds", "nowhere", "alike", "points", "endless", "unlike", "region")
PAPERS = papers()


def with_walls():
    """Claims, the wall, and what makes a paper of another wall, for each wall of a paper."""
    for claim, paper in PAPERS:
        if paper is None:
            continue
        if claim[0] in ("true", "false"):
            for at, wall in enumerate(paper):
                yield claim, wall, lambda other, at=at, paper=paper: paper[:at] + (other,) + paper[at + 1:]
        else:
            yield claim, paper, lambda other: other


def of_word(word):
    return [(claim, paper) for claim, paper in PAPERS if claim[0] == word]


def swapped(parts, one, other):
    parts = list(parts)
    parts[one], parts[other] = parts[other], parts[one]
    return tuple(parts)


def without(parts, at):
    return parts[:at] + parts[at + 1:]


def changed(parts, at, part):
    return parts[:at] + (part,) + parts[at + 1:]


class Taken(unittest.TestCase):

    def takes(self, claim, paper):
        self.assertIs(holds(claim, paper), True, claim)

    def test_each_word_with_its_paper(self):
        self.assertEqual(sorted({claim[0] for claim, paper in PAPERS}), sorted(WORDS))
        for claim, paper in PAPERS:
            self.takes(claim, paper)
            self.takes(claim, paper)

    def test_walls_in_other_forms(self):
        for claim, paper in PAPERS:
            if paper is None:
                continue
            for at in range(12):
                if claim[0] in ("true", "false"):
                    self.takes(claim, tuple(other_wall(wall, boards, at)
                                            for wall, boards in zip(paper, walls_boards(claim))))
                else:
                    self.takes(claim, other_wall(paper, walls_boards(claim)[0], at))

    def test_roots_in_other_forms(self):
        for claim, paper in of_word("roots"):
            for at in range(12):
                forms = [other_places(place) for place in claim[2]]
                self.takes(("roots", claim[1], tuple(some[at % len(some)] for some in forms)), None)
            self.takes(("roots", tuple(-7 * n for n in claim[1]), claim[2]), None)

    def test_spots_in_other_forms(self):
        for claim, paper in of_word("holds") + of_word("unlike"):
            *ahead, X, Y = claim
            for other in other_places(X):
                self.takes((*ahead, other, Y), None)
                for form in other_heights(Y, number((-100, 1)), number((100, 1))):
                    self.takes((*ahead, other, form), None)
                    self.takes((*ahead, X, form), None)

    def test_points_in_other_forms(self):
        for claim, paper in of_word("points"):
            for at in range(12):
                forms = [(other_places(X), other_heights_of((Y,), at)[0]) for X, Y in claim[3]]
                self.takes((*claim[:3], tuple((places[at % len(places)], Y) for places, Y in forms)), paper)

    def test_regions_in_other_forms(self):
        for claim, paper in of_word("region"):
            for low in range(4):
                for high in range(4):
                    region = tuple((self.form(part[0], low), part[1], self.form(part[2], high),
                                    part[3]) for part in claim[3])
                    self.takes((*claim[:3], region), paper)

    def form(self, end, at):
        if end is None:
            return None
        forms = [end] + other_places(end)
        return forms[at % len(forms)]

    def test_other_spots_that_are_true(self):
        self.takes(("holds", read_saying("x < y"), (0, 1), (1, 1)), None)
        self.takes(("holds", read_saying("[x^2 = 2 and y^3 = x]"), ROOT, (read_term("y^3 - x"), (1, 1), (2, 1))), None)
        self.takes(("holds", read_saying("[x^2 = 2 and y^3 = x]"), ROOT, (read_term("y^6 - 2"), (1, 1), (2, 1))), None)
        self.takes(("unlike", read_saying("x < y"), read_saying("x <= y"), ROOT, (read_term("x - y"), (0, 1), (3, 1))),
                   None)
        self.takes(("unlike", read_saying("x < y"), read_saying("x > y"), (1, 1), (0, 1)), None)

    def test_beyond_the_bounds(self):
        self.takes(("roots", (-2 * 10 ** 40,) + (0,) * 11 + (10 ** 40,),
                    (((-2,) + (0,) * 11 + (1,), (-2, 1), (0, 1)), ((-2,) + (0,) * 11 + (1,), (0, 1), (2, 1)))), None)
        claim, paper = paper_where(read_saying("[x^6 + y^6 < 0 or x^2 + 100000000000 < y - y]"))
        self.assertEqual(claim[0], "nowhere")
        self.takes(claim, paper)
        S = read_saying("x = 0")
        for text in ("y = 1", "x = 2", "x + y = 3", "x - y = 0", "y = 5", "x = 6", "y = 7", "x = 8", "x = 9"):
            S = ("or", S, read_saying(text))
        claim, paper = paper_where(("and", S, ("not", S)))
        self.assertEqual(claim[0], "nowhere")
        self.takes(claim, paper)


class Refused(unittest.TestCase):

    def refuses(self, claim, paper):
        self.assertIs(holds(claim, paper), False, (claim, paper))

    def test_the_other_word(self):
        other = {"true": "false", "false": "true", "points": None, "endless": None}
        for claim, paper in PAPERS:
            for word in WORDS:
                if word != claim[0]:
                    self.refuses((word, *claim[1:]), paper)
        for claim, paper in of_word("true") + of_word("false"):
            self.refuses((other[claim[0]], claim[1]), paper)
            self.refuses((claim[0], ("not", claim[1])), paper)
        for claim, paper in of_word("points"):
            self.refuses(("endless", claim[1], claim[2]), paper)
        for claim, paper in of_word("endless"):
            self.refuses(("points", claim[1], claim[2], ()), paper)
            self.refuses(("points", claim[1], claim[2], (((0, 1), (0, 1)),)), paper)
        for claim, paper in of_word("nowhere"):
            self.refuses(("nowhere", ("not", claim[1])), paper)
        for claim, paper in of_word("holds"):
            self.refuses(("holds", ("not", claim[1]), claim[2], claim[3]), paper)
            self.refuses(("nowhere", claim[1]), wall_of(boards_of(claim[1])))
        for claim, paper in of_word("alike"):
            self.refuses(("alike", claim[1], ("not", claim[2])), paper)
        for claim, paper in of_word("unlike"):
            self.refuses(("unlike", claim[1], ("not", claim[2]), *claim[3:]), paper)
            self.refuses(("alike", claim[1], claim[2]), wall_of(boards_of(("and", claim[1], claim[2]))))

    def test_other_words(self):
        for word in ("", "root", "Roots", "true ", "somewhere", "x", "holds.", "none", b"true", None, True, 1,
                     ("true",)):
            for claim, paper in PAPERS:
                self.refuses((word, *claim[1:]), paper)

    def test_none_where_a_paper_is_due(self):
        for claim, paper in PAPERS:
            if paper is None:
                for wall in ((), ((),), wall_of((read_term("x - y"),)), (wall_of((read_term("x - y"),)),), False, 0,
                             ""):
                    self.refuses(claim, wall)
            else:
                self.refuses(claim, None)
                self.refuses(claim, (paper,))
                self.refuses(claim, list(paper))
                if paper != ():
                    self.refuses(claim, ())

    def test_stacks_left_out_twice_or_exchanged(self):
        for claim, wall, paper_of in with_walls():
            many = len(wall)
            for at in range(many):
                self.refuses(claim, paper_of(without(wall, at)))
                self.refuses(claim, paper_of(wall[:at] + wall[at:at + 1] + wall[at:]))
                self.refuses(claim, paper_of(wall[:at] + wall[at:at + 1] * 2 + wall[at:]))
                for to in range(at):
                    self.refuses(claim, paper_of(swapped(wall, at, to)))
            for at in range(many - 1):
                self.refuses(claim, paper_of(wall[:at] + wall[at + 2:]))
                self.refuses(claim, paper_of(wall[:at] + wall[at:at + 2] + wall[at:]))
            self.refuses(claim, paper_of(wall[:-1]))
            self.refuses(claim, paper_of(()))

    def test_stacks_more(self):
        for claim, wall, paper_of in with_walls():
            X, heights = wall[-1]
            first, below = wall[0]
            behind = [(pair(number(X) + k), heights) for k in (1, 2)]
            ahead = [(pair(number(first) - k), below) for k in (2, 1)]
            self.refuses(claim, paper_of(wall + (behind[0],)))
            self.refuses(claim, paper_of(wall + tuple(behind)))
            self.refuses(claim, paper_of((ahead[1],) + wall))
            self.refuses(claim, paper_of(tuple(ahead) + wall))
            self.refuses(claim, paper_of(wall + ((ROOT, heights),) + (((5, 1), heights),)))

    def test_heights_left_out_twice_exchanged_or_more(self):
        for claim, wall, paper_of in with_walls():
            for at, (X, heights) in enumerate(wall):
                def told(other):
                    return paper_of(changed(wall, at, (X, other)))
                for k in range(len(heights)):
                    self.refuses(claim, told(without(heights, k)))
                    self.refuses(claim, told(heights[:k + 1] + heights[k:]))
                    if k:
                        self.refuses(claim, told(swapped(heights, k - 1, k)))
                top = max([number(Y if len(Y) == 2 else Y[2]) for Y in heights], default=0)
                self.refuses(claim, told(heights + (pair(top + 1),)))
                self.refuses(claim, told(heights + ((read_term("y^2 - 2"), pair(top + 1), pair(top + 9)),)))
                if heights:
                    self.refuses(claim, told(heights[:-1] + (pair(top + 1),)))
                    self.refuses(claim, told(heights[:-1] + (None,)))
                    self.refuses(claim, told(()))

    def test_heights_not_kept_apart(self):
        boards = (read_term("y^2 - 2"),)
        claim = ("nowhere", read_saying("[y^2 - 2 < 0 and y^2 - 2 > 0]"))
        board = boards[0]
        for low, high, taken in (((-1, 1), (-1, 1), True), ((0, 1), (0, 1), True), ((-1, 1), (1, 1), True),
                                 ((1, 1), (0, 1), False), ((0, 1), (-1, 2), False), ((1, 1), (-1, 1), False)):
            wall = (((0, 1), ((board, (-2, 1), low), (board, high, (2, 1)))),)
            self.assertIs(holds(claim, wall), taken, (low, high))
        claim = ("nowhere", read_saying("[y*(y - 1)*(y + 1) < 0 and y*(y - 1)*(y + 1) > 0]"))
        line = read_term("y - 1")
        for middle, last, taken in (((0, 1), (line, (1, 2), (2, 1)), True), ((0, 1), (line, (0, 1), (2, 1)), False),
                                    ((0, 1), (line, (-1, 2), (2, 1)), False),
                                    ((read_term("y"), (-1, 2), (1, 2)), (1, 1), True),
                                    ((read_term("y"), (-1, 2), (1, 1)), (1, 1), False),
                                    ((read_term("y"), (-1, 2), (3, 2)), (1, 1), False),
                                    ((read_term("y"), (-1, 2), (1, 2)), (line, (1, 2), (2, 1)), True),
                                    ((read_term("y"), (-1, 2), (2, 3)), (line, (1, 2), (2, 1)), False)):
            wall = (((0, 1), ((-1, 1), middle, last)),)
            self.assertIs(holds(claim, wall), taken, (middle, last))

    def test_a_place_where_a_fraction_is_due(self):
        for claim, wall, paper_of in with_walls():
            for at in range(0, len(wall), 2):
                X, heights = wall[at]
                for other in other_places(X)[:2] + [None, (), ROOT]:
                    self.refuses(claim, paper_of(changed(wall, at, (other, heights))))

    def test_a_wall_of_other_boards(self):
        boards = [read_term(text) for text in ("x^2 + y^2 - 7", "x - 5", "y - 77", "x*y - 3", "x^3 - 2",
                                               "x^2 - y + 11")]
        for claim, wall, paper_of in with_walls():
            for board in boards:
                self.refuses(claim, paper_of(wall_of((board,))))
        for claim, paper in PAPERS:
            if paper is None or claim[0] in ("true", "false"):
                continue
            due = walls_boards(claim)[0]
            for other in [due + (board,) for board in boards] + [without(due, at) for at in range(len(due))]:
                if not same_stacks(wall_of(other), paper):
                    self.refuses(claim, wall_of(other))

    def test_walls_in_another_order(self):
        claim, paper = paper_settled(read_saying("[some x x^2 = 2 and [all y y^2 >= 0 or some y some x x = y^2]]"))
        self.assertIs(holds(claim, paper), True)
        for one, other in ((0, 1), (0, 2), (1, 2)):
            self.refuses(claim, swapped(paper, one, other))
        self.refuses(claim, paper[:2])
        self.refuses(claim, paper[1:])
        self.refuses(claim, paper + paper[2:])
        self.refuses(claim, paper[0])

    def test_a_wall_along_the_other_letter(self):
        S = read_saying("some x [y = x^2 and x > 1]")
        claim, paper = paper_region(S, "y")
        self.assertIs(holds(claim, paper), True)
        self.refuses(claim, wall_of(boards_of(S)))
        self.refuses(("region", S, "x", claim[3]), paper)
        self.refuses(("region", S, "x", claim[3]), wall_of(boards_of(S)))
        claim, paper = paper_settled(("some", "y", S))
        self.refuses(claim, (wall_of(boards_of(S)),))

    def test_roots(self):
        row = (-6, 11, -6, 1)
        for places in (((1, 1), (2, 1)), ((1, 1), (2, 1), (3, 1), (3, 1)), ((1, 1), (1, 1), (2, 1), (3, 1)),
                       ((1, 1), (3, 1), (2, 1)), ((3, 1), (2, 1), (1, 1)), ((1, 1), (2, 1), (4, 1)), (),
                       ((1, 1), (2, 1), (3, 1), (4, 1)), ((0, 1), (1, 1), (2, 1), (3, 1)), [(1, 1), (2, 1), (3, 1)],
                       ((1, 1), (2, 1), [3, 1]), ((1, 1), (2, 1), (6, 2)), ((True, 1), (2, 1), (3, 1)), None, (1, 2, 3),
                       ((1, 1), (2, 1), (row, (1, 2), (4, 1)))):
            self.refuses(("roots", row, places), None)
        for other in ((), [-6, 11, -6, 1], (-6, 11, -6, 1, 0), (-6, 11, -6, True), None, (0,), (1, 0), [1], (True,)):
            self.refuses(("roots", other, ((1, 1), (2, 1), (3, 1))), None)
            self.refuses(("roots", other, ()), None)
        self.refuses(("roots", TWO, (ROOT,)), None)
        self.refuses(("roots", TWO, (ROOT, LESS)), None)
        self.refuses(("roots", TWO, (LESS, ROOT, ROOT)), None)
        self.refuses(("roots", TWO, (LESS, (TWO, (-3, 2), (-1, 1)), ROOT)), None)
        self.refuses(("roots", TWO, (LESS, (TWO, (-2, 1), (2, 1)))), None)
        self.refuses(("roots", TWO, (LESS, ((-3, 0, 1), (1, 1), (2, 1)))), None)
        self.refuses(("roots", (1, 0, 1), ((0, 1),)), None)

    def test_spots_that_are_none(self):
        S, T = read_saying("x^2 = 2"), read_saying("y = 1")
        for X, Y in ((ROOT, (2, 2)), (ROOT, None), (None, (0, 1)), ((TWO, (1, 1), (1, 1)), (0, 1)),
                     (list(ROOT), (0, 1)),
                     (ROOT, (read_term("y^2 - x"), (-2, 1), (2, 1))), (ROOT,
                                                                       (read_term("(x^2 - 2)*y"), (-1, 1), (1, 1))),
                     (ROOT, (read_term("y"), (-1, 1), (1,))), (ROOT, [0, 1]), ((True, 1), (0, 1)), ((1, 1), (0, 1)),
                     (ROOT, (0, True)), (ROOT, ([()], (-1, 1), (1, 1)))):
            self.refuses(("holds", S, X, Y), None)
            self.refuses(("unlike", S, T, X, Y), None)
        self.refuses(("unlike", S, S, ROOT, (0, 1)), None)
        self.refuses(("unlike", S, T, ROOT, (1, 1)), None)
        self.refuses(("unlike", S, T, (1, 1), (0, 1)), None)

    def test_kinds_of_sayings(self):
        bound, free = read_saying("some x x^2 = 2"), read_saying("x^2 = 2")
        wall = wall_of(boards_of(free))
        self.assertIs(holds(("true", bound), (wall,)), True)
        self.refuses(("true", free), (wall,))
        self.refuses(("false", free), (wall,))
        self.refuses(("true", free), ())
        self.refuses(("false", read_saying("some x some x x^2 = 2")), (wall,))
        self.refuses(("true", read_saying("some x some x x^2 = 2")), (wall,))
        self.refuses(("true", read_saying("some y x^2 = 2")), (wall,))
        self.refuses(("nowhere", ("not", bound)), wall)
        self.refuses(("nowhere", bound), wall)
        self.refuses(("holds", bound, ROOT, (0, 1)), None)
        self.refuses(("alike", bound, bound), wall)
        self.refuses(("alike", free, bound), wall)
        self.refuses(("unlike", bound, free, (0, 1), (0, 1)), None)
        self.refuses(("unlike", free, bound, (0, 1), (0, 1)), None)
        self.refuses(("region", bound, "x", ((None, False, None, False),)), wall)
        self.refuses(("region", free, "y", ()), wall)

    def test_points(self):
        claim, paper = paper_points(read_term("x^2 - 2"), read_term("y^2 - 2"))
        spots = claim[3]
        self.assertEqual(len(spots), 4)
        self.assertIs(holds(claim, paper), True)
        for other in [without(spots, k) for k in range(4)] + [spots[:k] + spots[k:k + 1] + spots[k:] for k in range(4)] + [
                swapped(spots, k, j) for k in range(4) for j in range(k)] + [
                (), list(spots), None, spots + (((9, 1), (9, 1)),), (((-9, 1), (9, 1)),) + spots,
                changed(spots, 0, list(spots[0])), changed(spots, 0, spots[0] + ((),)), changed(spots, 0, spots[0][:1]),
                changed(spots, 3, ((7, 5), spots[3][1])), changed(spots, 3, (spots[3][0], (7, 5))),
                changed(spots, 3, (spots[3][0], None)), changed(spots, 3, (None, spots[3][1])),
                changed(spots, 3, (spots[0][0], spots[3][1])), changed(spots, 3, (spots[3][0], spots[0][1]))]:
            self.refuses((*claim[:3], other), paper)
        self.refuses((claim[0], claim[2], claim[1], spots), wall_of((claim[1],)))
        self.refuses(("points", claim[1], claim[1], ()), wall_of((claim[1],)))
        for f in (None, ((),), [(1,)], ((0,),), ((True,),), 1):
            self.refuses(("points", f, claim[2], ()), wall_of((claim[2],)))
            self.refuses(("points", claim[2], f, ()), wall_of((claim[2],)))
            self.refuses(("endless", f, f), wall_of((claim[2],)))
            self.refuses(("endless", f, claim[2]), wall_of((claim[2],)))
            self.refuses(("endless", claim[2], f), wall_of((claim[2],)))

    def test_a_board_twice(self):
        f = read_term("x^2 - 2")
        self.assertIs(holds(("endless", f, f), wall_of((f,))), True)
        g = read_term("x^2 + y^2")
        self.assertIs(holds(("points", g, g, (((0, 1), (0, 1)),)), wall_of((g,))), True)
        self.refuses(("points", g, g, ()), wall_of((g,)))

    def regions(self, text, letter, good, wrong):
        S = read_saying(text)
        boards = boards_of(S)
        wall = wall_of(boards if letter == "x" else tuple(turned(f) for f in boards))
        self.assertIs(holds(("region", S, letter, good), wall), True, text)
        for region in wrong:
            self.refuses(("region", S, letter, region), wall)

    def test_regions(self):
        whole = (None, False, None, False)
        for letter in "xy":
            self.regions(f"{letter}^2 < 2", letter, ((LESS, False, ROOT, False),), (
                (), (whole,), ((LESS, True, ROOT, False),), ((LESS, False, ROOT, True),),
                ((LESS, False, (3, 2), False),),
                ((None, False, ROOT, False),), ((LESS, False, None, False),), ((ROOT, False, LESS, False),),
                ((LESS, False, (0, 1), False), ((0, 1), True, ROOT, False)),
                ((LESS, False, (0, 1), True), ((0, 1), False, ROOT, False)),
                ((LESS, False, (0, 1), False), ((0, 1), False, ROOT, False)),
                ((LESS, False, (1, 1), True), ((0, 1), True, ROOT, False)),
                ((LESS, False, ROOT, False), (ROOT, True, ROOT, False)),
                ((LESS, False, ROOT, False), (ROOT, False, ROOT, False)),
                ((LESS, False, ROOT, False), ((2, 1), True, (2, 1), True)), ((LESS, False, ROOT, False),) * 2,
                [(LESS, False, ROOT, False)], ([LESS, False, ROOT, False],), ((LESS, 0, ROOT, False),),
                ((LESS, False, ROOT, 0),), ((LESS, False, ROOT),), ((LESS, False, ROOT, False, None),),
                (LESS, False, ROOT, False),
                ((LESS, None, ROOT, False),), (None,), None, ((LESS, False, (TWO, (1, 1), (1, 1)), False),)))
            self.regions(f"{letter} != 1", letter, ((None, False, (1, 1), False), ((1, 1), False, None, False)), (
                (whole,), ((None, True, (1, 1), False), ((1, 1), False, None, False)),
                ((None, False, (1, 1), False), ((1, 1), False, None, True)),
                ((None, 0, (1, 1), False), ((1, 1), False, None, False)),
                ((None, False, (2, 2), False), ((1, 1), False, None, False)),
                ((None, False, (1, 1), True), ((1, 1), False, None, False)),
                ((None, False, (1, 1), False), ((1, 1), True, None, False)),
                (((1, 1), False, None, False), (None, False, (1, 1), False)),
                ((None, False, (1, 1), False),), (((1, 1), False, None, False),),
                ((None, False, (1, 1), False), ((2, 1), False, None, False)), (whole, whole),
                ((None, False, (1, 1), False), ((1, 1), False, (2, 1), False), ((2, 1), True, None, False))))
            self.regions(f"{letter}^2 >= 0", letter, (whole,), (
                (), (whole, whole), ((None, False, (0, 1), False), ((0, 1), True, None, False)),
                ((None, False, (0, 1), True), ((0, 1), False, None, False)), ((None, True, None, True),),
                ((None, False, (0, 1), False), ((0, 1), False, None, False)), ((None, False, (0, 1), True),)))
            self.regions(f"{letter}^2 < 0", letter, (), (
                (whole,), (((0, 1), True, (0, 1), True),), (((0, 1), False, (0, 1), False),),
                (((0, 1), True, (0, 1), False),),
                [], None, ((),), False, {}, ""))
            self.regions(f"{letter} = 3", letter, (((3, 1), True, (3, 1), True),), (
                (), (((3, 1), True, (3, 1), False),), (((3, 1), False, (3, 1), True),),
                (((3, 1), False, (3, 1), False),),
                (((3, 1), True, (4, 1), True),), (((2, 1), True, (3, 1), True),), (((3, 1), True, (3, 1), 1),),
                (((3, 1), True, (6, 2), True),), (((3, 1), True),)))

    def test_one_number_alone_in_two_forms(self):
        S = read_saying("x^2 = 2")
        wall = wall_of(boards_of(S))
        for one in [ROOT] + other_places(ROOT):
            for other in [ROOT] + other_places(ROOT):
                self.assertIs(holds(("region", S, "x", ((LESS, True, LESS, True), (one, True, other, True))), wall),
                              True)

    def test_letters(self):
        claim, paper = paper_region(read_saying("x < 1"), "x")
        for letter in things() + ["y", "X", "xy", "", " x"]:
            if not isinstance(letter, str) or letter != "x":
                self.refuses((claim[0], claim[1], letter, claim[3]), paper)

    def test_a_part_more_or_less(self):
        for claim, paper in PAPERS:
            self.refuses(claim[:-1], paper)
            self.refuses(claim + (None,), paper)
            self.refuses(claim + claim[-1:], paper)
            self.refuses(list(claim), paper)
            self.refuses((claim,), paper)
            self.refuses(claim[1:], paper)
            self.refuses(claim[:1], paper)


def same_stacks(one, other):
    """Whether two walls have as many stacks of as many heights."""
    return [len(heights) for X, heights in one] == [len(heights) for X, heights in other]


def nodes(thing, at=()):
    """All that stands in a thing, with the way to it."""
    yield at, thing
    if isinstance(thing, tuple):
        for k, part in enumerate(thing):
            yield from nodes(part, at + (k,))


def put(thing, at, part):
    """The thing with another part at the end of a way."""
    return part if at == () else changed(thing, at[0], put(thing[at[0]], at[1:], part))


def otherwise(part):
    """The same written otherwise: it is never as told."""
    if isinstance(part, tuple):
        return [list(part), part + (None,), dict(enumerate(part))]
    if isinstance(part, bool):
        return [int(part), None, str(part)]
    if isinstance(part, int):
        return [str(part), None, (part,)] + ([bool(part)] if part in (0, 1) else [])
    if isinstance(part, str):
        return [part.encode(), part.upper() + " ", None, [part]]
    return [False, 0, "None", [], {}]


def ways_of_wall(wall):
    for k, (X, heights) in enumerate(wall):
        yield (k, 0)
        yield from [(k, 1, j) for j in range(len(heights))]


def ways_of_claim(claim):
    """The ways to all places and heights in a claim."""
    word, last = claim[0], len(claim) - 1
    if word == "roots":
        return [(2, k) for k in range(len(claim[2]))]
    if word in ("holds", "unlike"):
        return [(last - 1,), (last,)]
    if word == "points":
        return [(3, k, j) for k in range(len(claim[3])) for j in (0, 1)]
    if word == "region":
        return [(3, k, j) for k, part in enumerate(claim[3]) for j in (0, 2) if part[j] is not None]
    return []


def ways_of_paper(claim, paper):
    if paper is None:
        return []
    if claim[0] in ("true", "false"):
        return [(k,) + way for k, wall in enumerate(paper) for way in ways_of_wall(wall)]
    return list(ways_of_wall(paper))


def part_there(thing, way):
    return thing if way == () else part_there(thing[way[0]], way[1:])


def not_lowest(told):
    """A place or a height with a fraction that isn't in lowest terms."""
    if len(told) == 2:
        return [(k * told[0], k * told[1]) for k in (2, 3, -1)]
    return [changed(told, at, other) for at in (1, 2) for other in not_lowest(told[at])]


class WrittenOtherwise(unittest.TestCase):
    """Each single part of a claim or a paper, written otherwise."""

    def test_parts_of_claims(self):
        for claim, paper in PAPERS:
            for way, part in nodes(claim):
                for other in otherwise(part):
                    self.assertIs(holds(put(claim, way, other), paper), False, (claim, way, other))

    def test_parts_of_papers(self):
        for claim, paper in PAPERS:
            if paper is not None and len(repr(paper)) < 1000:
                for way, part in nodes(paper):
                    for other in otherwise(part):
                        self.assertIs(holds(claim, put(paper, way, other)), False, (claim, way, other))

    def test_fractions_not_in_lowest_terms(self):
        for claim, paper in PAPERS:
            for way in ways_of_claim(claim):
                for other in not_lowest(part_there(claim, way)):
                    self.assertIs(holds(put(claim, way, other), paper), False, (claim, way, other))
            for way in ways_of_paper(claim, paper):
                for other in not_lowest(part_there(paper, way)):
                    self.assertIs(holds(claim, put(paper, way, other)), False, (claim, way, other))


class AnyThings(unittest.TestCase):

    def test_claims_of_any_kind(self):
        for thing in things() + [(word,) for word in WORDS] + list(WORDS):
            for paper in [None, ()] + [paper for claim, paper in PAPERS[::7]]:
                self.assertIs(holds(thing, paper), False)

    def test_parts_of_any_kind(self):
        for word in WORDS:
            claim, paper = of_word(word)[0]
            for at in range(len(claim)):
                for thing in things():
                    # 0 is a board, and shares a curve with each that has one.
                    if at and word in ("points", "endless", "region", "roots") and isinstance(thing,
                                                                                              tuple) and thing == ():
                        continue
                    if isinstance(thing, str) and thing == claim[at]:
                        continue
                    self.assertIs(holds(changed(claim, at, thing), paper), False, (claim, at))

    def test_papers_of_any_kind(self):
        for claim, paper in PAPERS:
            for thing in things():
                if not (isinstance(thing, tuple) and thing == () and paper == () or thing is None and paper is None):
                    self.assertIs(holds(claim, thing), False, claim)

    def test_walls_with_parts_of_any_kind(self):
        S = read_saying("[x^2 + y^2 = 1 and x > 1]")
        wall = wall_of(boards_of(S))
        self.assertIs(holds(("nowhere", S), wall), True)
        for at in range(len(wall)):
            for thing in things() + [Odd()]:
                self.assertIs(holds(("nowhere", S), changed(wall, at, thing)), False)
                self.assertIs(holds(("nowhere", S), changed(wall, at, (thing, wall[at][1]))), False)
                self.assertIs(holds(("nowhere", S), changed(wall, at, (wall[at][0], (thing,)))), False)
                if not isinstance(thing, tuple) or thing != () or wall[at][1] != ():
                    self.assertIs(holds(("nowhere", S), changed(wall, at, (wall[at][0], thing))), False)

    def test_nothing_handed_in_is_changed(self):
        claim, paper = paper_points(read_term("x^2 - 2"), read_term("y^2 - x"))
        before = repr((claim, paper))
        self.assertIs(holds(claim, paper), True)
        self.assertEqual(repr((claim, paper)), before)
        rows = [[1, 2], {"x": 1}]
        self.assertIs(holds(("roots", rows[0], rows[1]), rows), False)
        self.assertEqual(rows, [[1, 2], {"x": 1}])


class Imports(unittest.TestCase):

    def wants(self, name):
        tree = ast.parse((PACKAGE / f"{name}.py").read_text())
        return [node.module.split(".")[1] for node in tree.body if isinstance(node, ast.ImportFrom)]

    def test_nothing_of_stages_9_to_11(self):
        waiting, seen = ["checker"], []
        while waiting:
            name = waiting.pop()
            if name not in seen:
                seen.append(name)
                waiting += self.wants(name)
        for name in ("walls", "truth", "regions", "questions"):
            self.assertNotIn(name, seen)


if __name__ == "__main__":
    unittest.main()
