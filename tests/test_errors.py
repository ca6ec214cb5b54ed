"""The refusals and how they stand under one another [2]."""

import unittest

from limbtables import errors

NAMES = ["NoGround", "NoNumber", "NoTable", "NoDrawing", "NoKind", "NoStanding", "NoChange", "NoMirror", "NoRoot",
         "NoText", "NoRow", "NoName"]


class Refusals(unittest.TestCase):
    def test_base_stands_straight_under_value_error(self):
        self.assertEqual(errors.LimbError.__bases__, (ValueError,))

    def test_each_stands_straight_under_the_base(self):
        for name in NAMES:
            with self.subTest(name):
                self.assertEqual(getattr(errors, name).__bases__, (errors.LimbError,))

    def test_none_stands_under_another_one(self):
        for name in NAMES:
            for other in NAMES:
                if name != other:
                    with self.subTest(name, other=other):
                        self.assertFalse(issubclass(getattr(errors, name), getattr(errors, other)))

    def test_each_is_a_class_of_its_own_and_taken_as_a_value_error(self):
        self.assertEqual(len({getattr(errors, name) for name in NAMES}), 12)
        for name in NAMES:
            for taken in (ValueError, errors.LimbError):
                with self.subTest(name, taken=taken):
                    with self.assertRaises(taken):
                        raise getattr(errors, name)("words")


if __name__ == "__main__":
    unittest.main()
