"""Point 26: the desk."""

import re
import unittest

from kinds import things
from planestacks.above import is_height, sign_above
from planestacks.desk import Desk
from planestacks.errors import NoKind, NoLine, NoRow, NoText, StackError
from planestacks.places import order_of, sign_at
from planestacks.sayingtexts import read_saying
from planestacks.terms import read_term
from planestacks.truth import true_at
from surds import TWO

ROOT = (TWO, (1, 1), (2, 1))
LESS = (TWO, (-2, 1), (-1, 1))
FRACTION = "(-?[0-9]+)(?:/([0-9]+))?"
NOT_FRACTION = f"root of (.*) in [(]({FRACTION}), ({FRACTION})[)]"


def say(row):
    return Desk().say(row)


def read_fraction(text):
    top, bottom = re.fullmatch(FRACTION, text).groups()
    if bottom == "1":
        raise AssertionError("a bottom of 1 is not written")
    return (int(top), int(bottom or 1))


def read_height(text):
    if re.fullmatch(FRACTION, text):
        return read_fraction(text)
    term, low, high = re.fullmatch(NOT_FRACTION, text).group(1, 2, 5)
    return (read_term(term), read_fraction(low), read_fraction(high))


def read_place(text):
    """A place as it is written; its term has one letter only."""
    place = read_height(text)
    if len(place) == 2:
        return place
    board, low, high = place
    if len(board) != 1:
        raise AssertionError(f"{text} is written with y")
    return (board[0], low, high)


class Settle(unittest.TestCase):

    def test_both_answers(self):
        for text, answer in (("some x x^2 = 2", "true"), ("all x x^2 = 2", "false"), ("1 < 2", "true"),
                             ("1 > 2", "false"),
                             ("all y some x y = x^3", "true"), ("all y some x y = x^2", "false"),
                             ("[some x x^2 < 0 or not all y y > 0]", "true")):
            self.assertEqual(say("settle " + text), answer)

    def test_blanks(self):
        self.assertEqual(say("settle   some  x   x ^ 2 = 2 "), "true")
        self.assertEqual(say("settle some x x^2=2"), "true")

    def test_refused(self):
        for text in ("x = 0", "some x x = y", "[some x x = 0 and y = 0]"):
            self.assertRaises(NoKind, say, "settle " + text)


class Where(unittest.TestCase):

    def told(self, text):
        answer = say("where " + text)
        if answer == "nowhere":
            return None
        place, height = answer.split("; ")
        X, Y = read_place(place), read_height(height)
        self.assertTrue(is_height(Y, X))
        self.assertTrue(true_at(read_saying(text), X, Y))
        return answer

    def test_nowhere(self):
        for text in ("x^2 < 0", "x^2 + y^2 < 0", "[x = y and x != y]", "0 = 1"):
            self.assertIsNone(self.told(text))

    def test_somewhere(self):
        for text in ("x^2 + y^2 = 2", "x > y", "[x^2 = 2 and y^2 = x]", "[x^2 = 2 and y = 3]", "[x = 3 and y^2 = 2]",
                     "[2*x = 1 and 3*y = 0 - 2]", "x != y", "0 = 0", "[x^2 = 2 and [x > 0 and x*y = 2]]"):
            self.assertIsNotNone(self.told(text), text)

    def test_word_for_word(self):
        for text, answer in (("x^2 + y^2 = 0", "0; 0"), ("[x = 3 and y = 0 - 4]", "3; -4"),
                             ("[2*x = 1 and 3*y = 0 - 2]", "1/2; -2/3"),
                             ("[x + 5 = 0 and 7*y = 22]", "-5; 22/7")):
            self.assertEqual(say("where " + text), answer)

    def test_numbers_that_are_no_fractions(self):
        answer = self.told("[x^2 = 2 and [x > 0 and y^3 = x]]")
        self.assertRegex(answer, f"^{NOT_FRACTION}; {NOT_FRACTION}$")
        place, height = answer.split("; ")
        X, Y = read_place(place), read_height(height)
        self.assertEqual(order_of(X, ROOT), 0)
        self.assertEqual(sign_above(read_term("y^6 - 2"), X, Y), 0)
        place, height = self.told("[x = 3 and y^2 = x]").split("; ")
        self.assertEqual(place, "3")
        self.assertIn("y", height)

    def test_refused(self):
        self.assertRaises(NoKind, say, "where some x x = y")


class Same(unittest.TestCase):

    def test_both_answers(self):
        for row, answer in (("x < y; not y <= x", "alike"), ("x < y; x <= y", "unlike"),
                            ("x*y = 0; [x = 0 or y = 0]", "alike"),
                            ("x^2 = 2;   x^2 = 2", "alike"), ("x = 0 ; y = 0", "unlike"), ("0 = 0; x^2 >= 0", "alike")):
            self.assertEqual(say("same " + row), answer)

    def test_refused(self):
        self.assertRaises(NoKind, say, "same x = 0; some x x = y")
        self.assertRaises(NoKind, say, "same some x x = y; x = 0")


class Points(unittest.TestCase):

    def test_answers(self):
        for row, answer in (("x; y", "1"), ("x^2 - 2; y^2 - 2", "4"), ("x; x - 1", "0"), ("x; x", "endless"),
                            ("0; 0", "endless"),
                            ("x*y; x", "endless"), ("x^2 + y^2; 0", "1"), ("x^2+y^2-2;  x-y ", "2"), ("1; 2", "0"),
                            ("y - x^2; y - 2*x + 1", "1"), ("x^4 - 5*x^2 + 4; y^3 - y", "12")):
            self.assertEqual(say("points " + row), answer)


class Region(unittest.TestCase):

    def told(self, row, pattern, places):
        answer = say("region " + row)
        found = re.fullmatch(pattern.replace("P", "(.*)"), answer)
        self.assertIsNotNone(found, answer)
        for text, place in zip(found.groups(), places):
            self.assertEqual(order_of(read_place(text), place), 0, answer)

    def test_none_and_all(self):
        for letter in "xy":
            self.assertEqual(say(f"region {letter}; {letter}^2 < 0"), "none")
            self.assertEqual(say(f"region {letter}; {letter}^2 >= 0"), "all")
            self.assertEqual(say(f"region {letter}; [{letter} < 1 or {letter} >= 1]"), "all")
            self.assertEqual(say(f"region {letter}; 1 = 2"), "none")

    def test_fractions(self):
        for text, answer in (
                ("L < 1", "L < 1"), ("L <= 1", "L <= 1"), ("L > 1", "1 < L"), ("L >= 1", "1 <= L"), ("L = 3", "L = 3"),
                ("2*L = 3", "L = 3/2"), ("L + 2 = 0", "L = -2"), ("L != 1", "L < 1 or 1 < L"),
                ("[L > 0 and L < 1]", "0 < L < 1"), ("[L >= 0 and L < 1]", "0 <= L < 1"),
                ("[L > 0 and L <= 1]", "0 < L <= 1"),
                ("L^2 <= 4", "-2 <= L <= 2"), ("4*L^2 = 9", "L = -3/2 or L = 3/2"),
                ("[L = 0 or [L > 1 and [L <= 2 or L >= 3]]]", "L = 0 or 1 < L <= 2 or 3 <= L")):
            for letter in "xy":
                row = f"region {letter}; " + text.replace("L", letter)
                self.assertEqual(say(row), answer.replace("L", letter))

    def test_others(self):
        for letter in "xy":
            other = "yx"["xy".index(letter)]
            self.told(f"{letter}; {letter}^2 < 2", f"P < {letter} < P", (LESS, ROOT))
            self.told(f"{letter}; {letter}^2 <= 2", f"P <= {letter} <= P", (LESS, ROOT))
            self.told(f"{letter}; [{letter}^2 < 2 and {letter} >= 1]", f"1 <= {letter} < P", (ROOT,))
            self.told(f"{letter}; {letter}^2 = 2", f"{letter} = P or {letter} = P", (LESS, ROOT))
            self.told(f"{letter}; {letter}^2 != 2", f"{letter} < P or P < {letter} < P or P < {letter}",
                      (LESS, LESS, ROOT, ROOT))
            self.told(f"{letter}; some {other} x^2 + y^2 <= 2", f"P <= {letter} <= P", (LESS, ROOT))
            self.told(f"{letter}; not some {other} x^2 + y^2 < 2", f"{letter} <= P or P <= {letter}", (LESS, ROOT))

    def test_terms_in_x_over_y_too(self):
        for letter in "xy":
            answer = say(f"region {letter}; {letter}^2 = 2")
            self.assertRegex(answer, f"^{letter} = {NOT_FRACTION} or {letter} = {NOT_FRACTION}$")
            self.assertEqual(answer.count("x^2 - 2"), 2)
            self.assertEqual(answer.count("y"), 2 if letter == "y" else 0)

    def test_letters(self):
        for letter in ("z", "X", "", " x", "x ", "xy", "1", "all"):
            self.assertRaises(NoText, say, f"region {letter}; x = 0")
            self.assertRaises(NoText, say, f"region {letter}; some x x = 0")

    def test_refused(self):
        for row in ("x; y = 0", "y; x = 0", "x; some x x = y", "x; x = y"):
            self.assertRaises(NoKind, say, "region " + row)


class Roots(unittest.TestCase):

    def test_fractions(self):
        for text, answer in (("x", "0"), ("x^2 - 1", "-1; 1"), ("2*x - 1", "1/2"), ("x^2 + 1", "none"), ("7", "none"),
                             ("-7", "none"),
                             ("(x - 1)^2*(3*x + 2)", "-2/3; 1"), ("x^2", "0"), ("y - y + x - 4", "4")):
            self.assertEqual(say("roots " + text), answer)

    def test_others(self):
        low, nought, high = say("roots x^3 - 2*x").split("; ")
        self.assertEqual(nought, "0")
        self.assertEqual([order_of(read_place(low), LESS), order_of(read_place(high), ROOT)], [0, 0])
        for text in say("roots 3*x^4 - 5*x^2 + x + 1").split("; "):
            self.assertEqual(sign_at((1, 1, -5, 0, 3), read_place(text)), 0)

    def test_refused(self):
        for text in ("y", "x*y", "0", "x - x", "y^2 - 1", "x + y", "x*0"):
            self.assertRaises(NoRow, say, "roots " + text)


class Refused(unittest.TestCase):

    def test_rows_that_are_none(self):
        for row in ("", " ", "Settle 1 < 2", "SETTLE 1 < 2", " settle 1 < 2", "settles 1 < 2", "sett 1 < 2", "settle",
                    "where",
                    "same", "points", "region", "roots", "settle; 1 < 2", "settle 1 < 2; 1 < 2", "settle 1 < 2; ",
                    "where x = 0; y = 0",
                    "same x = 0", "same x = 0;y = 0", "same x = 0; y = 0; x = 1", "same ", "points x", "points x;y",
                    "points x; y; x",
                    "points ", "region x", "region x = 0", "region x;x = 0", "region x; x = 0; x = 0", "region ",
                    "roots x; x",
                    "roots x; ", "paper ", "paper 1", "paper x; y", "Paper", "paper;", " paper", "paper  ", "papers",
                    "none", "x = 0",
                    "settle\t1 < 2", "settle\n1 < 2", "holds", "unknown y; ", "1 < 2"):
            self.assertRaises(NoLine, say, row)

    def test_no_texts(self):
        for thing in things() + [b"paper", ["paper"], ("settle", "1 < 2")]:
            if not isinstance(thing, str):
                self.assertRaises(NoLine, say, thing)

    def test_parts_that_are_none(self):
        for row in ("settle ", "settle  ", "settle x", "settle x <", "settle X < 1", "settle some z z = 0",
                    "settle Some x x = 0",
                    "where ", "where 1", "where x == 1", "roots ", "roots x^", "roots X", "roots x = 0",
                    "same ; x = 0", "same x = 0; ",
                    "same ; ", "same x; y", "points ; x", "points x; ", "points ; ", "points x = 0; y", "points x; Y",
                    "region ; x = 0",
                    "region x; ", "region ; ", "region x; y", "region X; x = 0", "same x = 0;; y = 0"):
            self.assertRaises(NoText, say, row)

    def test_no_line_ahead_of_all_else(self):
        for row in ("settle x; x", "where some x x = y; 1", "same X", "same some x x = 0", "points Y", "region z",
                    "roots y; y",
                    "region z; x = 0; y = 0", "same x; y; z", "paper ; x"):
            self.assertRaises(NoLine, say, row)

    def test_no_text_ahead_of_what_the_functions_refuse(self):
        for row in ("same some x x = y; x", "same x; some x x = y", "region z; some x x = y",
                    "region x; some x some y x"):
            self.assertRaises(NoText, say, row)

    def test_no_refusal_else(self):
        desk = Desk()
        for row in ("settle x = 0", "roots y", "nothing", "settle", "settle x"):
            with self.assertRaises(StackError):
                desk.say(row)

    def test_bounds_of_texts(self):
        self.assertRaises(NoText, say, "settle " + "1 = 1".rjust(2001))
        self.assertEqual(say("settle " + "1 = 1".rjust(2000)), "true")
        self.assertRaises(NoText, say, "roots " + "x".rjust(1001))
        self.assertEqual(say("roots " + "x".rjust(1000)), "0")


class Paper(unittest.TestCase):

    ROWS = ("settle some x x^2 = 2", "settle 1 > 2", "settle [all x x^2 > 2 or some y y^2 = 2]", "where x^2 < 0",
            "where x^2 = 2",
            "same x < y; y > x", "same x < y; y >= x", "points x^2 - 2; y^2 - x", "points x*y; x", "points 1; 1",
            "region x; x^2 < 2", "region y; some x x = y^2", "region y; y < y", "roots x^2 - 2", "roots 7")

    def test_ahead_of_any_answer(self):
        desk = Desk()
        self.assertEqual(desk.say("paper"), "none")
        self.assertEqual(desk.say("paper"), "none")

    def test_behind_each_word(self):
        together = Desk()
        for row in self.ROWS:
            desk = Desk()
            self.assertEqual(desk.say(row), together.say(row))
            self.assertEqual(desk.say("paper"), "holds", row)
            self.assertEqual(desk.say("paper"), "holds", row)
            self.assertEqual(together.say("paper"), "holds", row)

    def test_behind_refused_rows(self):
        desk = Desk()
        for row in ("settle x = 0", "roots y", "nothing", "settle", "settle x", "paper 1"):
            self.assertRaises(StackError, desk.say, row)
            self.assertEqual(desk.say("paper"), "none")
        desk.say("roots x")
        for row in ("settle x = 0", "roots y", "nothing", "settle", "settle x", "paper 1"):
            before = desk.told
            self.assertRaises(StackError, desk.say, row)
            self.assertEqual(desk.say("paper"), "holds")
            self.assertEqual(desk.told, before)

    def test_it_is_the_last_answer_that_is_asked_for(self):
        desk = Desk()
        desk.say("roots x")
        desk.say("settle 1 = 1")
        self.assertEqual(desk.told[0][0], "true")
        desk.say("paper")
        self.assertEqual(desk.told[0][0], "true")
        desk.told = (("true", read_saying("1 = 2")), ())
        self.assertEqual(desk.say("paper"), "no")
        desk.say("where x = 0")
        self.assertEqual(desk.say("paper"), "holds")

    def test_two_desks(self):
        one, other = Desk(), Desk()
        one.say("roots x")
        self.assertEqual(other.say("paper"), "none")
        other.say("settle 1 = 2")
        self.assertEqual((one.say("paper"), other.say("paper")), ("holds", "holds"))
        self.assertEqual((one.told[0][0], other.told[0][0]), ("roots", "false"))
        self.assertEqual(Desk().say("paper"), "none")

    def test_kinds(self):
        desk = Desk()
        for row in self.ROWS + ("paper",):
            self.assertIs(type(desk.say(row)), str)


if __name__ == "__main__":
    unittest.main()
