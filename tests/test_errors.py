"""The interface's section errors.py."""

import unittest

from samebuilds import errors

NAMES = [
    "InvalidRecipe", "InvalidActs", "InvalidAct", "InvalidWorld", "InvalidWorlds", "InvalidStep", "InvalidOffers",
    "InvalidWish", "InvalidNumber", "NotLeft", "Unlike", "NotOffered", "Bought", "NothingToUndo", "ParseError",
]


class Errors(unittest.TestCase):
    def test_the_base_class_is_a_value_error(self):
        self.assertEqual(errors.BuildError.__bases__, (ValueError,))

    def test_there_are_fifteen(self):
        self.assertEqual(len(set(NAMES)), 15)
        defined = [name for name, value in vars(errors).items() if isinstance(value, type)]
        self.assertEqual(sorted(defined), sorted(NAMES + ["BuildError"]))

    def test_each_is_a_direct_subclass_of_the_base_class_alone(self):
        for name in NAMES:
            with self.subTest(name):
                self.assertEqual(getattr(errors, name).__bases__, (errors.BuildError,))

    def test_none_inherits_from_another_one(self):
        for name in NAMES:
            for other in NAMES:
                if name != other:
                    self.assertFalse(issubclass(getattr(errors, name), getattr(errors, other)), (name, other))

    def test_each_is_defined_under_its_own_name_in_this_file(self):
        for name in NAMES + ["BuildError"]:
            with self.subTest(name):
                self.assertEqual(getattr(errors, name).__name__, name)
                self.assertEqual(getattr(errors, name).__module__, "samebuilds.errors")

    def test_each_can_be_raised_and_caught_as_the_base_class(self):
        for name in NAMES:
            with self.subTest(name):
                with self.assertRaises(errors.BuildError):
                    raise getattr(errors, name)("told")


if __name__ == "__main__":
    unittest.main()
