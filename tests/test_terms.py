"""Point 12: terms, read and shown."""

import unittest

from kinds import is_board, things
from naive import seeded
from planestacks.boards import board_minus, board_plus, board_times, board_value
from planestacks.errors import NoText
from planestacks.terms import read_term, show_term

X, Y, ONE = ((0, 1),), ((), (1,)), ((1,),)


class Read(unittest.TestCase):

    def told(self, text, expected):
        answer = read_term(text)
        self.assertTrue(is_board(answer), answer)
        self.assertEqual(answer, expected, text)

    def test_atoms(self):
        self.told("0", ())
        self.told("7", ((7,),))
        self.told("10", ((10,),))
        self.told("999999999999", ((999999999999,),))
        self.told("x", X)
        self.told("y", Y)
        self.told("(x)", X)
        self.told("((((7))))", ((7,),))

    def test_sums_are_read_from_the_left(self):
        self.told("1 - 2 - 3", ((-4,),))
        self.told("1 - 2 + 3", ((2,),))
        self.told("1 - (2 + 3)", ((-4,),))
        self.told("x - y - x", ((), (-1,)))
        self.told("x + y", ((0, 1), (1,)))
        self.told("x-x", ())

    def test_products_come_ahead_of_sums(self):
        self.told("2 + 3*4", ((14,),))
        self.told("2*3 + 4", ((10,),))
        self.told("(2 + 3)*4", ((20,),))
        self.told("2*x*y*x", ((), (0, 0, 2)))
        self.told("0*x", ())
        self.told("x*0 + y", Y)

    def test_minuses(self):
        self.told("-x", ((0, -1),))
        self.told("-x^2", ((0, 0, -1),))
        self.told("(-x)^2", ((0, 0, 1),))
        self.told("-2^2", ((-4,),))
        self.told("--x", X)
        self.told("---2^2", ((-4,),))
        self.told("2*-3", ((-6,),))
        self.told("2*-3*--x", ((0, -6),))
        self.told("1--1", ((2,),))
        self.told("1---1", ((0,),)[:0])
        self.told("1+-1", ())
        self.told("-x*y", ((), (0, -1)))
        self.told("-(x - y)", ((0, -1), (1,)))
        self.told("-1 - 1", ((-2,),))
        self.told("-0", ())

    def test_powers(self):
        self.told("x^2", ((0, 0, 1),))
        self.told("x^1", X)
        self.told("x^0", ONE)
        self.told("0^0", ONE)
        self.told("(x - x)^0", ONE)
        self.told("0^3", ())
        self.told("2^9", ((512,),))
        self.told("y^9", ((),) * 9 + ((1,),))
        self.told("(x + y)^2", ((0, 0, 1), (0, 2), (1,)))
        self.told("(x + 1)^3", ((1, 3, 3, 1),))
        self.told("2*x^2", ((0, 0, 2),))
        self.told("(x^2)^3", ((0,) * 6 + (1,),))
        self.told("x^3*x", ((0, 0, 0, 0, 1),))

    def test_blanks(self):
        self.told("  3 * x ^ 2 * y  -  ( 1 + 12 )  ", ((-13,), (0, 0, 3)))
        self.told("3*x^2*y-(1+12)", ((-13,), (0, 0, 3)))
        self.told("- - x", X)
        self.told("( x )", X)
        self.told(" 0 ", ())

    def test_against_reckoning(self):
        random = seeded(31)
        for _ in range(300):
            text, board = random_term(random, 3)
            self.told(text, board)

    def test_powers_and_numbers_of_the_bounds(self):
        self.told("x^9*y^9", ((),) * 9 + ((0,) * 9 + (1,),))
        self.told("999999999999*999999999999", ((999999999999 ** 2,),))


def random_term(random, deep):
    """A text and the board that it means, put together side by side."""
    kind = random.randrange(7) if deep else random.randrange(2)
    blank = random.choice(("", "", " ", "  "))
    if kind == 0:
        number = random.choice((0, 1, 2, 30, 405))
        return str(number) + blank, ((number,),) if number else ()
    if kind == 1:
        return random.choice((("x", X), ("y", Y)))
    one, first = random_term(random, deep - 1)
    other, second = random_term(random, deep - 1)
    if kind == 2:
        return f"({one}){blank}*({blank}{other})", board_times(first, second)
    if kind == 3:
        return f"{one}{blank}+({other})", board_plus(first, second)
    if kind == 4:
        return f"({one})-{blank}({other})", board_minus(first, second)
    if kind == 5:
        power = random.randrange(3)
        board = ONE
        for _ in range(power):
            board = board_times(board, first)
        return f"({one}){blank}^{blank}{power}", board
    return f"-{blank}({one})", board_minus((), first)


class Refused(unittest.TestCase):

    def refused(self, text):
        with self.assertRaises(NoText, msg=repr(text)):
            read_term(text)

    def test_no_texts(self):
        for thing in things():
            if not isinstance(thing, str) or thing != "11" and thing != "x":
                self.refused(thing)
        self.refused(b"x")
        self.refused(["x"])

    def test_no_terms(self):
        for text in ("", " ", "+", "-", "*", "^", "(", ")", "()", "( )", "x +", "x -", "x *", "* x", "+x", "x++y",
                     "x**2", "x//2", "x/2", "x y", "x 2", "2 x", "2x", "xy", "x2", "x(y)", "2(x)", "(x)(y)", "(x)y",
                     "(x", "x)", "((x)", "(x))", ")x(", "x^", "x^y", "x^-1", "x^(2)", "x^2^3", "x^^2", "^2", "x^12",
                     "x^00", "x^2 3", "x^1 2", "z", "X", "Y", "a", "x1", "1 2", "01", "00", "007", "0x", "-", "--",
                     "x-", "1.5", "x,y", "x = 0", "x < 1", "x<=1", "[x]", "x]", "{x}", "not x", "x and y", "x or y",
                     "some", "x!", "!", "x;", "x'", "\"x\"", "1_000", "1e3", "x=", "<", "x^2y", "2^", "x^x", "some x x"):
            self.refused(text)

    def test_numbers_of_twelve_figures(self):
        self.assertEqual(read_term("1" * 12), ((int("1" * 12),),))
        self.refused("1" * 13)
        self.refused("x + 1000000000000")
        self.refused("0" * 2)

    def test_a_thousand_signs(self):
        text = "x" + " + x" * 249
        self.assertEqual(len(text), 997)
        self.assertEqual(read_term(text + "   "), ((0, 250),))
        self.refused(text + "    ")
        self.refused(" " * 1000 + "x")
        self.assertEqual(read_term(" " * 999 + "x"), X)

    def test_twenty_brackets(self):
        self.assertEqual(read_term("(" * 20 + "x" + ")" * 20), X)
        self.refused("(" * 21 + "x" + ")" * 21)
        self.assertEqual(read_term("(" * 20 + "x" + ")" * 20 + "*" + "(" * 20 + "y" + ")" * 20), ((), (0, 1)))
        self.assertEqual(read_term("+".join(["(x)"] * 60)), ((0, 60),))
        self.refused("(x)*" + "(" * 21 + "x" + ")" * 21)

    def test_twenty_minuses(self):
        self.assertEqual(read_term("-" * 20 + "x"), X)
        self.assertEqual(read_term("-" * 19 + "x"), ((0, -1),))
        self.refused("-" * 21 + "x")
        self.assertEqual(read_term("y-" + "-" * 20 + "x"), ((0, -1), (1,)))
        self.refused("y-" + "-" * 21 + "x")
        self.refused("y+" + "- " * 21 + "x")
        self.refused("y*" + "-" * 21 + "x")
        self.assertEqual(read_term("y*" + "- " * 20 + "x"), ((), (0, 1)))
        self.assertEqual(read_term("-" * 20 + "(" + "-" * 20 + "x)"), X)
        self.assertEqual(read_term("-" * 20 + "x" + "-" + "-" * 20 + "y^2"), ((0, 1), (), (-1,)))
        self.refused("-" * 21 + "(x)")

    def test_no_term_is_refused_before_it_is_reckoned(self):
        deep = "(" * 20 + "x + y" + ")^9" * 20
        self.refused(deep + " +")
        self.refused(deep + " 3")


class Shown(unittest.TestCase):

    def told(self, board, expected):
        answer = show_term(board)
        self.assertIs(type(answer), str)
        self.assertEqual(answer, expected)

    def test_nought_and_numbers(self):
        self.told((), "0")
        self.told(((1,),), "1")
        self.told(((-1,),), "-1")
        self.told(((10 ** 30,),), "1" + "0" * 30)

    def test_letters(self):
        self.told(X, "x")
        self.told(Y, "y")
        self.told(((), (0, 1)), "x*y")
        self.told(((0, -1),), "-x")
        self.told(((), (0, -1)), "-x*y")
        self.told(((0, 0, 1),), "x^2")
        self.told(((), (0, 0, 3)), "3*x^2*y")
        self.told(((), (), (0, 0, 0, -12)), "-12*x^3*y^2")

    def test_numbers_of_one(self):
        self.told(((1, 1), (1, 1)), "x*y + y + x + 1")
        self.told(((-1, -1), (-1, -1)), "-x*y - y - x - 1")
        self.told(((11, 10),), "10*x + 11")

    def test_order_and_signs(self):
        self.told(((7, 0, 5), (), (2, -3)), "-3*x*y^2 + 2*y^2 + 5*x^2 + 7")
        self.told(((-1, 0, 1), (), (1,)), "y^2 + x^2 - 1")
        self.told(((-2, 0, 0, 4), (0, 1, -1), (), (5,)), "5*y^3 - x^2*y + x*y + 4*x^3 - 2")

    def test_what_is_shown_is_read(self):
        random = seeded(32)
        for _ in range(300):
            rows = [[random.choice((0, 0, 1, -1, 2, -30, 10 ** 6)) for _ in range(5)] for _ in range(5)]
            board = ()
            for j, row in enumerate(rows):
                for i, n in enumerate(row):
                    board = board_plus(board, ((),) * j + ((0,) * i + (n,),) if n else ())
            text = show_term(board)
            self.assertEqual(read_term(text), board)
            self.assertEqual(text.replace(" + ", "").replace(" - ", "").count(" "), 0)
            at = (random.randint(-5, 5), 1)
            with_stars = text.replace("^", "**")
            value = eval(with_stars, {"x": at[0], "y": 3})
            self.assertEqual(board_value(board, at, (3, 1)), (value, 1))


if __name__ == "__main__":
    unittest.main()
