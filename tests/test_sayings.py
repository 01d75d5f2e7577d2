"""Points 13 and 14: what is a saying, its boards, and of which kinds it is."""

import unittest

from kinds import Odd, is_board, things
from planestacks.sayings import boards_of, is_closed, is_over, is_plain, is_saying

X, Y, XY, NUMBER = ((0, 1),), ((), (1,)), ((-1,), (0, 1)), ((5,),)
SIGNS = ((-1,), (0,), (1,), (-1, 0), (0, 1), (-1, 1))


def says(board, signs=(1,)):
    return ("is", board, signs)


def neither(*sayings):
    """All of them, put together from the left."""
    whole = sayings[0]
    for saying in sayings[1:]:
        whole = ("and", whole, ("not", saying))
    return whole


class WhatIsOne(unittest.TestCase):

    def is_one(self, thing):
        self.assertIs(is_saying(thing), True, thing)

    def is_none(self, thing):
        self.assertIs(is_saying(thing), False, thing)

    def test_each_form(self):
        for signs in SIGNS:
            for board in ((), NUMBER, X, Y, XY, ((10 ** 40,) * 12,) * 12):
                self.is_one(("is", board, signs))
        self.is_one(("not", says(X)))
        self.is_one(("and", says(X), says(Y)))
        self.is_one(("or", says(X), says(Y)))
        for word in ("some", "all"):
            for letter in ("x", "y"):
                self.is_one((word, letter, says(XY)))
        self.is_one(("not", ("all", "x", ("or", ("some", "y", says(XY)), ("and", says(X), ("not", says(())))))))
        self.is_one(("some", "x", ("some", "x", says(X))))

    def test_wrong_signs(self):
        for signs in ((), (1, 0), (0, -1), (1, -1), (-1, 0, 1), (0, 0), (2,), (-2,), (True,), (False,), (-1, False),
                      (False, 1), (0, True), [0], [1], (1, 1), "0", 0, None, ("0",), ((0,),), {0}, {0: 1}, Odd(),
                      (Odd(),), (0, Odd()), frozenset((0,)), (None,)):
            self.is_none(("is", X, signs))

    def test_wrong_boards(self):
        for board in (None, 0, 1, "x", [], [(0, 1)], ([0, 1],), ((0,),), ((1, 0),), ((),), ((1,), ()), ((0, True),),
                      (1,), (1, 2), ((None,),), (((1,),),), {}, Odd(), (Odd(),), ((Odd(),),), ((1,), None), "",
                      (("1",),), ((1,), (0, 0))):
            self.is_none(("is", board, (0,)))

    def test_wrong_words(self):
        for word in ("", "IS", "is ", "in", "nor", "xor", None, 0, Odd(), ("is",), b"is", True):
            self.is_none((word, X, (0,)))
            self.is_none((word, says(X)))
            self.is_none((word, says(X), says(X)))
            self.is_none((word, "x", says(X)))
        self.is_none(("is", says(X), says(X)))
        self.is_none(("not", X, (0,)))
        self.is_none(("and", X, (0,)))

    def test_wrong_letters(self):
        for letter in ("", "z", "xy", "X", " x", None, 0, ("x",), ["x"], Odd(), b"x", True, says(X)):
            self.is_none(("some", letter, says(X)))
            self.is_none(("all", letter, says(X)))

    def test_wrong_lengths(self):
        self.is_none(())
        for whole in (says(X), ("not", says(X)), ("and", says(X), says(Y)), ("or", says(X), says(Y)),
                      ("some", "x", says(X)), ("all", "y", says(X))):
            for many in range(len(whole)):
                self.is_none(whole[:many])
            self.is_none(whole + (says(X),))
            self.is_none(whole + (None,))
            self.is_none(list(whole))

    def test_wrong_ones_within(self):
        for thing in [*things(), list(says(X)), ("is", X, (True,))]:
            for whole in (("not", thing), ("and", says(X), thing), ("and", thing, says(X)), ("or", says(X), thing),
                          ("or", thing, says(X)), ("some", "x", thing), ("all", "y", ("not", thing)),
                          ("not", ("or", says(X), ("not", thing)))):
                self.is_none(whole)

    def test_things_of_any_kind(self):
        for thing in things():
            self.is_none(thing)
        deep = ("is", X, (0,))
        wrong = ("is", X, [0])
        for _ in range(90):
            deep, wrong = ("not", deep), ("not", wrong)
        self.is_one(deep)
        self.is_none(wrong)

    def test_many_parts(self):
        whole = says(X)
        for k in range(39):
            whole = ("or", whole, ("is", ((k,),) if k else (), (0,)))
        self.is_one(whole)


class Boards(unittest.TestCase):

    def told(self, saying, expected):
        answer = boards_of(saying)
        self.assertIs(type(answer), tuple)
        self.assertTrue(all(is_board(board) for board in answer))
        self.assertEqual(answer, expected)

    def test_of_one(self):
        for signs in SIGNS:
            self.told(("is", XY, signs), (XY,))
        self.told(says(()), ((),))

    def test_from_the_left(self):
        self.told(("and", says(X), says(Y)), (X, Y))
        self.told(("and", says(Y), says(X)), (Y, X))
        self.told(("or", ("and", says(NUMBER), ("not", says(Y))), ("all", "x", says(X))), (NUMBER, Y, X))
        self.told(("or", ("some", "y", says(X)), ("and", says(NUMBER), ("not", says(Y)))), (X, NUMBER, Y))
        self.told(("and", ("or", says(XY), says(Y)), ("or", says(X), says(()))), (XY, Y, X, ()))

    def test_each_once(self):
        self.told(("and", says(X), says(X, (0,))), (X,))
        self.told(("or", ("and", says(Y), says(X)), ("and", says(X), says(Y))), (Y, X))
        self.told(("and", says(X), says(((0, -1),))), (X, ((0, -1),)))

    def test_of_many(self):
        boards = tuple(((k, 1),) for k in range(40))
        self.told(neither(*[says(board) for board in boards]), boards)
        self.told(neither(*[says(board) for board in boards[::-1]]), boards[::-1])

    def test_they_are_new(self):
        board = ((-1, 0, 1), (), (1,))
        told = boards_of(says(board))
        self.assertIsNot(told[0], board)
        self.assertIsNot(told[0][0], board[0])
        self.assertEqual(board, ((-1, 0, 1), (), (1,)))


class Kinds(unittest.TestCase):

    def plain(self, saying, expected):
        self.assertIs(is_plain(saying), expected, saying)

    def over(self, saying, letters):
        for letter in ("x", "y"):
            self.assertIs(is_over(saying, letter), letter in letters, (saying, letter))

    def closed(self, saying, expected):
        self.assertIs(is_closed(saying), expected, saying)

    def test_plain(self):
        for saying in (says(X), says(()), ("not", says(XY)), ("and", says(X), ("or", says(Y), ("not", says(XY))))):
            self.plain(saying, True)
        for word in ("some", "all"):
            self.plain((word, "x", says(NUMBER)), False)
            self.plain(("not", (word, "y", says(X))), False)
            self.plain(("and", says(X), (word, "y", says(X))), False)
            self.plain(("or", (word, "y", says(X)), says(X)), False)

    def test_over_without_some_and_all(self):
        self.over(says(X), "x")
        self.over(says(Y), "y")
        self.over(says(XY), "")
        self.over(says(NUMBER), "xy")
        self.over(says(()), "xy")
        self.over(("and", says(X), ("not", says(NUMBER))), "x")
        self.over(("or", says(X), says(Y)), "")
        self.over(("and", says(((1, 2), (3,))), says(X)), "")
        self.over(says(((), (0, 1))), "")
        self.over(says(((), (), (1,))), "y")

    def test_over_with_some_and_all(self):
        for word in ("some", "all"):
            self.over((word, "y", says(XY)), "x")
            self.over((word, "x", says(XY)), "y")
            self.over(("not", (word, "y", says(Y))), "x")
            self.over((word, "y", says(NUMBER)), "x")
            self.over(("and", (word, "y", says(XY)), says(X)), "x")
            self.over(("and", (word, "y", says(XY)), says(Y)), "")
            self.over(("and", says(Y), (word, "y", says(XY))), "")
            self.over(("and", (word, "y", says(XY)), says(NUMBER)), "x")
            self.over(("or", (word, "y", says(XY)), (word, "y", says(X))), "x")
            self.over(("or", (word, "y", says(XY)), (word, "x", says(X))), "")
            self.over(("or", (word, "y", ("and", says(XY), ("not", says(Y)))), ("not", says(X))), "x")

    def test_over_with_some_within(self):
        for one in ("some", "all"):
            for other in ("some", "all"):
                for letter in ("x", "y"):
                    self.over((one, "y", (other, letter, says(XY))), "")
                    self.over((one, "y", ("not", ("and", says(X), (other, letter, says(XY))))), "")
                    self.over((one, "x", ("or", (other, letter, says(XY)), says(X))), "")

    def test_closed_without_some_and_all(self):
        self.closed(says(NUMBER), True)
        self.closed(says(()), True)
        self.closed(("or", ("not", says(NUMBER)), ("and", says(()), says(((-3,),)))), True)
        self.closed(says(X), False)
        self.closed(says(Y), False)
        self.closed(("and", says(NUMBER), says(X)), False)
        self.closed(("not", says(XY)), False)

    def test_closed_with_some_and_all(self):
        for one in ("some", "all"):
            self.closed((one, "x", says(X)), True)
            self.closed((one, "y", says(Y)), True)
            self.closed((one, "x", says(Y)), False)
            self.closed((one, "y", says(X)), False)
            self.closed((one, "x", says(XY)), False)
            self.closed((one, "x", says(NUMBER)), True)
            self.closed(("not", (one, "x", says(X))), True)
            self.closed(("and", (one, "x", says(X)), (one, "y", says(Y))), True)
            self.closed(("and", (one, "x", says(X)), says(NUMBER)), True)
            self.closed(("and", (one, "x", says(X)), says(X)), False)
            self.closed(("or", says(Y), (one, "x", says(X))), False)

    def test_closed_with_two_of_them(self):
        for one in ("some", "all"):
            for other in ("some", "all"):
                self.closed((one, "x", (other, "y", says(XY))), True)
                self.closed((one, "y", (other, "x", says(XY))), True)
                self.closed((one, "x", (other, "x", says(X))), False)
                self.closed((one, "x", (other, "x", says(XY))), False)
                self.closed((one, "y", (other, "y", says(NUMBER))), False)
                self.closed((one, "x", ("and", says(X), (other, "y", says(XY)))), True)
                self.closed((one, "x", ("and", says(Y), (other, "y", says(XY)))), False)
                self.closed((one, "x", (other, "y", (one, "x", says(XY)))), False)
                self.closed((one, "x", (other, "y", (one, "y", says(Y)))), False)
                self.closed(("not", ("or", (one, "x", (other, "y", says(XY))), (one, "y", (other, "x", says(XY))))), True)
                self.closed(("and", (one, "x", (other, "y", says(XY))), (one, "x", says(XY))), False)


if __name__ == "__main__":
    unittest.main()
