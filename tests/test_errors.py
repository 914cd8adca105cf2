"""pickfloor/errors.py: the classes of the refusals."""

import unittest

from pickfloor import errors

NAMES = ["BadWare", "BadMake", "BadNeed", "Twice", "Full", "NoMake", "BadWish", "BadPick"]


class Errors(unittest.TestCase):
    def test_pick_error_is_a_value_error(self):
        self.assertEqual(errors.PickError.__bases__, (ValueError,))

    def test_each_stands_straight_under_pick_error(self):
        for name in NAMES:
            with self.subTest(name=name):
                self.assertEqual(getattr(errors, name).__bases__, (errors.PickError,))

    def test_each_is_a_class_of_its_own_defined_here(self):
        classes = [getattr(errors, name) for name in ["PickError"] + NAMES]
        self.assertEqual([each.__name__ for each in classes], ["PickError"] + NAMES)
        self.assertEqual({each.__module__ for each in classes}, {"pickfloor.errors"})

    def test_each_can_be_raised_and_caught_as_any_refusal(self):
        for name in NAMES:
            with self.subTest(name=name):
                with self.assertRaises(errors.PickError):
                    raise getattr(errors, name)("why")


if __name__ == "__main__":
    unittest.main()
