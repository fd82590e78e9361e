"""Promise [3]: the classes of the refusals and how they stand to one another."""

import unittest

from twomakes import errors

NAMES = (
    "NoMill", "NoText", "NoState", "Resting", "NoBell",
    "Shut", "NoLay", "NoStep", "NoHold", "NoRow",
)


class ErrorClasses(unittest.TestCase):
    def test_make_error_stands_straight_under_value_error(self):
        self.assertEqual(errors.MakeError.__bases__, (ValueError,))

    def test_each_class_stands_straight_under_make_error(self):
        for name in NAMES:
            with self.subTest(name=name):
                self.assertEqual(getattr(errors, name).__bases__, (errors.MakeError,))

    def test_no_class_stands_under_another_one(self):
        for name in NAMES:
            for other in NAMES:
                if name != other:
                    with self.subTest(name=name, other=other):
                        self.assertFalse(issubclass(getattr(errors, name), getattr(errors, other)))

    def test_each_class_bears_its_own_name(self):
        for name in NAMES + ("MakeError",):
            with self.subTest(name=name):
                self.assertEqual(getattr(errors, name).__name__, name)

    def test_a_refusal_is_taken_by_its_class_and_by_those_above(self):
        for name in NAMES:
            for above in (name, "MakeError"):
                with self.subTest(name=name, above=above):
                    with self.assertRaises(getattr(errors, above)):
                        raise getattr(errors, name)("some words")


if __name__ == "__main__":
    unittest.main()
