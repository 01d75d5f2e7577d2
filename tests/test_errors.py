"""Point 2 and the interface: the classes of the refusals."""

import unittest

from planestacks import errors

NAMES = ("NoNumber", "NoRow", "NoEnds", "NoPlace", "NoText", "NoKind", "NoHeight", "NoLine")


class Classes(unittest.TestCase):

    def test_the_base_is_a_value_error(self):
        self.assertTrue(issubclass(errors.StackError, ValueError))

    def test_each_stands_under_the_base(self):
        for name in NAMES:
            kind = getattr(errors, name)
            self.assertTrue(issubclass(kind, errors.StackError), name)
            self.assertIsNot(kind, errors.StackError)

    def test_none_stands_under_another_one(self):
        for name in NAMES:
            for other in NAMES:
                if name != other:
                    self.assertFalse(issubclass(getattr(errors, name), getattr(errors, other)), (name, other))


if __name__ == "__main__":
    unittest.main()
