import unittest

from unitshares import errors

NAMES = ["NoFraction", "NotBelow", "TooGreat", "BadText", "NotRising"]


class Errors(unittest.TestCase):
    def test_share_error_is_a_value_error(self):
        self.assertEqual(errors.ShareError.__bases__, (ValueError,))

    def test_each_stands_straight_under_share_error(self):
        for name in NAMES:
            self.assertEqual(getattr(errors, name).__bases__, (errors.ShareError,), name)

    def test_each_is_a_share_error_and_a_value_error(self):
        for name in NAMES:
            made = getattr(errors, name)("words")
            self.assertIsInstance(made, errors.ShareError)
            self.assertIsInstance(made, ValueError)

    def test_none_is_one_of_the_others(self):
        for name in NAMES:
            for other in NAMES:
                same = issubclass(getattr(errors, name), getattr(errors, other))
                self.assertEqual(same, name == other, (name, other))


if __name__ == "__main__":
    unittest.main()
