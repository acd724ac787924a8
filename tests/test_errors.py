"""Promise 0.3, of refusals: each of its own class, under FlowError, none under another."""

import unittest

from stillflow import errors

NAMES = ("NoWorld", "NoPlan", "NoPlace", "TooMany", "Nothing", "NoText")


class Errors(unittest.TestCase):
    def test_any_refusal_is_a_value_error(self):
        self.assertEqual(errors.FlowError.__bases__, (ValueError,))

    def test_each_stands_straight_under_flow_error(self):
        for name in NAMES:
            self.assertEqual(getattr(errors, name).__bases__, (errors.FlowError,), name)

    def test_all_are_classes_of_their_own(self):
        self.assertEqual(len({getattr(errors, name) for name in NAMES}), len(NAMES))

    def test_each_can_be_raised_and_taken(self):
        for name in NAMES:
            with self.assertRaises(errors.FlowError):
                raise getattr(errors, name)("words")


if __name__ == "__main__":
    unittest.main()
