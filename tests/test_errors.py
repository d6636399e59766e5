"""Point 2: the refusals."""

import unittest

from tests.support import REFUSALS
from undercells import errors


class Refusals(unittest.TestCase):

    def test_base_is_straight_under_value_error(self):
        self.assertEqual(errors.UnderError.__bases__, (ValueError,))

    def test_others_are_each_straight_under_the_base(self):
        for refusal in REFUSALS:
            self.assertEqual(refusal.__bases__, (errors.UnderError,), refusal)

    def test_others_are_unlike_and_none_is_under_another(self):
        for one in REFUSALS:
            for other in REFUSALS:
                self.assertEqual(issubclass(one, other), one is other)

    def test_names(self):
        self.assertEqual(
            [refusal.__name__ for refusal in REFUSALS],
            ["NoWord", "NoNumber", "NoPair", "TooMany", "NoTables", "NoText", "NoRow", "NoName"])
        self.assertEqual(errors.UnderError.__name__, "UnderError")

    def test_each_is_caught_as_value_error(self):
        for refusal in REFUSALS:
            with self.assertRaises(ValueError):
                raise refusal("why")


if __name__ == "__main__":
    unittest.main()
