"""Point 13: sayings, read and shown."""

import unittest

from kinds import things
from naive import seeded
from planestacks.errors import NoText
from planestacks.sayings import is_saying
from planestacks.sayingtexts import read_saying, show_saying

X, Y = ((0, 1),), ((), (1,))
LESS = ("is", X, (-1,))
EQUAL = ("is", Y, (0,))


class Read(unittest.TestCase):

    def told(self, text, expected):
        answer = read_saying(text)
        self.assertTrue(is_saying(answer), answer)
        self.assertEqual(answer, expected, text)

    def test_comparisons(self):
        for sign, signs in (("<", (-1,)), ("=", (0,)), (">", (1,)), ("<=", (-1, 0)), (">=", (0, 1)), ("!=", (-1, 1))):
            self.told(f"x {sign} 0", ("is", X, signs))
            self.told(f"x{sign}0", ("is", X, signs))
            self.told(f"x^2 + y {sign} 3*y - 1", ("is", ((1, 0, 1), (-2,)), signs))
            self.told(f"0 {sign} x", ("is", ((0, -1),), signs))
            self.told(f"x {sign} x", ("is", (), signs))
            self.told(f"-x {sign} -y", ("is", ((0, -1), (1,)), signs))
            self.told(f"(x) {sign} (0)", ("is", X, signs))

    def test_words(self):
        self.told("not x < 0", ("not", LESS))
        self.told("[x < 0 and y = 0]", ("and", LESS, EQUAL))
        self.told("[x < 0 or y = 0]", ("or", LESS, EQUAL))
        for word in ("some", "all"):
            for letter in ("x", "y"):
                self.told(f"{word} {letter} x < 0", (word, letter, LESS))

    def test_words_within_one_another(self):
        self.told("not not x < 0", ("not", ("not", LESS)))
        self.told("not [x < 0 and y = 0]", ("not", ("and", LESS, EQUAL)))
        self.told("[not x < 0 and y = 0]", ("and", ("not", LESS), EQUAL))
        self.told("[x < 0 and not y = 0]", ("and", LESS, ("not", EQUAL)))
        self.told("some x all y not x < 0", ("some", "x", ("all", "y", ("not", LESS))))
        self.told("not all y some x x < 0", ("not", ("all", "y", ("some", "x", LESS))))
        self.told("[[x < 0 or y = 0] and x < 0]", ("and", ("or", LESS, EQUAL), LESS))
        self.told("[x < 0 and [y = 0 or x < 0]]", ("and", LESS, ("or", EQUAL, LESS)))
        self.told("not [some x [x < 0 and y = 0] or not all y [y = 0 or x < 0]]",
                  ("not", ("or", ("some", "x", ("and", LESS, EQUAL)), ("not", ("all", "y", ("or", EQUAL, LESS))))))
        self.told("[not [x < 0 or x < 0] or not [y = 0 and y = 0]]",
                  ("or", ("not", ("or", LESS, LESS)), ("not", ("and", EQUAL, EQUAL))))

    def test_blanks_that_may_stand(self):
        self.told("  [  x  <  0   and   y  =  0  ]  ", ("and", LESS, EQUAL))
        self.told("not[x<0 and y=0]", ("not", ("and", LESS, EQUAL)))
        self.told("[[x<0 or y=0]and[x<0 or y=0]]", ("and", ("or", LESS, EQUAL), ("or", LESS, EQUAL)))
        self.told("[x<(0)and(y)=0]", ("and", LESS, EQUAL))
        self.told("some x(x)<0", ("some", "x", LESS))
        self.told("some x-x>0", ("some", "x", ("is", ((0, -1),), (1,))))
        self.told("not(x)<0", ("not", LESS))
        self.told("not-x>0", ("not", ("is", ((0, -1),), (1,))))
        self.told("some y[x<0 or y=0]", ("some", "y", ("or", LESS, EQUAL)))
        self.told("[x<0 or not y=0 ]", ("or", LESS, ("not", EQUAL)))
        self.told("x<-0", LESS)

    def test_terms_within(self):
        self.told("(x + y)*(x - y) <= 2^3", ("is", ((-8, 0, 1), (), (-1,)), (-1, 0)))
        self.told("some y y*y = x", ("some", "y", ("is", ((0, -1), (), (1,)), (0,))))
        self.told("--x < -0", LESS)

    def test_forty_parts(self):
        left, right = LESS, LESS
        left_text, right_text = "x<0", "x<0"
        for k in range(1, 20):
            part = ("is", ((-k,), (1,)), (0,))
            left, left_text = ("and", left, part), f"[{left_text} and y={k}]"
            right, right_text = ("or", part, right), f"[y={k} or {right_text}]"
        self.told(f"[{left_text} or {right_text}]", ("or", left, right))


class Refused(unittest.TestCase):

    def refused(self, text):
        with self.assertRaises(NoText, msg=repr(text)):
            read_saying(text)

    def test_no_texts(self):
        for thing in things():
            self.refused(thing)
        self.refused(b"x < 0")
        self.refused(LESS)

    def test_no_sayings(self):
        for text in ("", " ", "x", "x <", "< 0", "<", "x < 0 < 1", "x < 0 = 0", "x == 0", "x <> 0", "x => 0", "x =< 0",
                     "x ! 0", "x !0", "x < 0 and y = 0", "x < 0 or y = 0", "[x < 0]", "[]", "[and]", "[x < 0 and]",
                     "[and x < 0]", "[x < 0 and y = 0", "x < 0 and y = 0]", "x < 0]", "[x < 0", "[x < 0 and y = 0]]",
                     "[[x < 0 and y = 0]", "[x < 0 and y = 0 or x < 0]", "[x < 0 not y = 0]", "[x < 0, y = 0]", "not",
                     "not not", "not x", "x not < 0", "x < not 0", "some", "some x", "some x x", "some x < 0",
                     "some z x < 0", "some xy x < 0", "some [x < 0 and y = 0]", "some 1 x < 0", "all", "all y", "all x < 0",
                     "some not x < 0", "(x < 0)", "([x < 0 and y = 0])", "[x < 0 and y = 0] < 0", "not (x < 0)",
                     "x < [0]", "x + y", "0", "true", "x < 0;", "x < 0 x < 0", "[x < 0 xor y = 0]", "x < 1.5",
                     "x < 0 not", "not x < 0 and", "[(x < 0 and y = 0)]", "x ^ 2 ^ 2 < 0", "2x < 0", "x y < 0",
                     "and x < 0 y = 0", "or", "is x < 0", "exists x x < 0", "x<0)", "(x<0", "x < 0 [", "{x < 0}",
                     "AND", "NOT x < 0", "Not x < 0", "some X x < 0"):
            self.refused(text)

    def test_blanks_that_must_stand(self):
        for text in ("notx < 0", "not2 < x", "somex x < 0", "some xx < 0", "some x2 < x", "some xnot x < 0",
                     "[x < 0and y = 0]", "[x < 0 andy = 0]", "[x < 0 or2 = y]", "[x < yand y = 0]", "ally y = 0",
                     "notnot x < 0", "notsome x x < 0", "notall x x < 0", "[x < 0 ornot y = 0]", "somexx<0"):
            self.refused(text)

    def test_blanks_that_may_not_stand(self):
        for text in ("x < = 0", "x > = 0", "x ! = 0", "n ot x < 0", "no t x < 0", "[x < 0 a nd y = 0]",
                     "[x < 0 o r y = 0]", "so me x x < 0", "al l x x < 0", "x < 1 0", "x < 1 2 3"):
            self.refused(text)

    def test_two_thousand_signs(self):
        self.assertEqual(read_saying("x < 0" + " " * 1995), LESS)
        self.refused("x < 0" + " " * 1996)
        text = "x" + " + x" * 480 + " < 0"
        self.assertEqual(len(text), 1925)
        self.assertEqual(read_saying(text), ("is", ((0, 481),), (-1,)))
        self.refused(text + " + 0" * 20)

    def test_twenty_round_brackets(self):
        self.assertEqual(read_saying("(" * 20 + "x" + ")" * 20 + " < 0"), LESS)
        self.refused("(" * 21 + "x" + ")" * 21 + " < 0")
        self.assertEqual(read_saying("x < " + "(" * 20 + "0" + ")" * 20), LESS)
        self.refused("x < " + "(" * 21 + "0" + ")" * 21)

    def test_twenty_square_brackets(self):
        def within(many, text):
            return "[" * many + text + " and x < 0]" * many
        self.assertTrue(is_saying(read_saying(within(20, "x < 0"))))
        self.refused(within(21, "x < 0"))
        # The kinds are counted apart.
        self.assertTrue(is_saying(read_saying(within(20, "(" * 20 + "x" + ")" * 20 + " < 0"))))
        self.refused(within(20, "(" * 21 + "x" + ")" * 21 + " < 0"))
        right = "x < 0"
        for _ in range(20):
            right = f"[x < 0 or {right}]"
        self.assertTrue(is_saying(read_saying(right)))
        self.refused(f"[x < 0 or {right}]")
        self.assertTrue(is_saying(read_saying("[" + within(19, "x < 0") + " or " + within(19, "y = 0") + "]")))

    def test_twenty_words_ahead(self):
        for many, fine in ((20, True), (21, False)):
            for words in ("not ", "some x ", "all y "):
                for rest in ("x < 0", "[x < 0 and y = 0]", "-x < 0", "(x) < 0", "3 < x"):
                    text = words * many + rest
                    if fine:
                        self.assertTrue(is_saying(read_saying(text)))
                    else:
                        self.refused(text)
            mixed = ("not some x all y " * 7)[:-len("all y ")] + ("" if fine else "not ")
            self.assertEqual(sum(mixed.count(word) for word in ("not", "some", "all")), many)
            if fine:
                self.assertTrue(is_saying(read_saying(mixed + "x < 0")))
            else:
                self.refused(mixed + "x < 0")
        twice = "not " * 20 + "[" + "not " * 20 + "x < 0 and " + "not " * 20 + "y = 0]"
        self.assertTrue(is_saying(read_saying(twice)))
        self.refused("[x < 0 and " + "not " * 21 + "y = 0]")

    def test_twenty_minuses(self):
        self.assertEqual(read_saying("-" * 20 + "x < " + "-" * 20 + "0"), LESS)
        self.refused("-" * 21 + "x < 0")
        self.refused("x < " + "-" * 21 + "0")
        self.refused("[x < 0 and y = y -" + "-" * 21 + "y]")

    def test_as_deep_as_the_bounds_let(self):
        text = ("not " * 20 + "[") * 20 + "not " * 20 + "x<0" + " or x<0]" * 20
        self.assertLessEqual(len(text), 2000)
        saying = read_saying(text)
        self.assertTrue(is_saying(saying))
        self.assertEqual(read_saying(show_saying(saying)), saying)

    def test_refused_before_it_is_reckoned(self):
        deep = "(" * 20 + "x + y" + ")^9" * 20
        self.refused(deep + " < 0 <")
        self.refused(f"[{deep} < 0 and x < 0")


class Shown(unittest.TestCase):

    def told(self, saying, expected):
        answer = show_saying(saying)
        self.assertIs(type(answer), str)
        self.assertEqual(answer, expected)
        self.assertEqual(read_saying(answer), saying)

    def test_each_form(self):
        for sign, signs in (("<", (-1,)), ("=", (0,)), (">", (1,)), ("<=", (-1, 0)), (">=", (0, 1)), ("!=", (-1, 1))):
            self.told(("is", X, signs), f"x {sign} 0")
            self.told(("is", (), signs), f"0 {sign} 0")
            self.told(("is", ((-1, 0, 1), (), (1,)), signs), f"y^2 + x^2 - 1 {sign} 0")
        self.told(("not", LESS), "not x < 0")
        self.told(("and", LESS, EQUAL), "[x < 0 and y = 0]")
        self.told(("or", LESS, EQUAL), "[x < 0 or y = 0]")
        self.told(("some", "x", LESS), "some x x < 0")
        self.told(("all", "y", LESS), "all y x < 0")

    def test_forms_within_one_another(self):
        self.told(("not", ("or", ("some", "x", ("and", LESS, EQUAL)), ("not", ("all", "y", EQUAL)))),
                  "not [some x [x < 0 and y = 0] or not all y y = 0]")
        self.told(("and", ("or", EQUAL, LESS), ("not", ("or", LESS, EQUAL))),
                  "[[y = 0 or x < 0] and not [x < 0 or y = 0]]")
        self.told(("not", ("not", ("is", ((0, -1),), (0, 1)))), "not not -x >= 0")
        self.told(("some", "y", ("all", "x", ("is", ((3,), (0, 0, -2)), (-1, 1)))), "some y all x -2*x^2*y + 3 != 0")

    def test_what_is_shown_is_read(self):
        random = seeded(33)
        for _ in range(200):
            saying = random_saying(random, 4)
            self.assertTrue(is_saying(saying))
            self.assertEqual(read_saying(show_saying(saying)), saying)


def random_saying(random, deep):
    kind = random.choice(("is", "not", "and", "or", "some", "all")) if deep else "is"
    if kind == "is":
        board = random.choice(((), X, Y, ((-1, 0, 1), (), (1,)), ((), (-3, 0, 7)), ((12,),)))
        return ("is", board, random.choice(((-1,), (0,), (1,), (-1, 0), (0, 1), (-1, 1))))
    if kind == "not":
        return ("not", random_saying(random, deep - 1))
    if kind in ("and", "or"):
        return (kind, random_saying(random, deep - 1), random_saying(random, deep - 1))
    return (kind, random.choice(("x", "y")), random_saying(random, deep - 1))


if __name__ == "__main__":
    unittest.main()
