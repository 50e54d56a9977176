"""The interface: the two error classes, and which stands below which."""

import unittest

from twonamed.errors import DemandError, NoText


class Errors(unittest.TestCase):
    def test_any_refusal_stands_below_value_error(self):
        self.assertEqual(DemandError.__bases__, (ValueError,))

    def test_no_text_stands_below_any_refusal(self):
        self.assertTrue(issubclass(NoText, DemandError))
        self.assertIsNot(NoText, DemandError)

    def test_both_are_raised_and_taken(self):
        for raised, taken in ((NoText, NoText), (NoText, DemandError), (NoText, ValueError),
                              (DemandError, DemandError), (DemandError, ValueError)):
            with self.assertRaises(taken):
                raise raised("words")

    def test_any_refusal_is_not_taken_as_no_text(self):
        self.assertNotIsInstance(DemandError("words"), NoText)


if __name__ == "__main__":
    unittest.main()
