"""Point [2] and the interface of the errors."""

import unittest

from meantrace import errors


class Errors(unittest.TestCase):
    def test_all_stand_directly_under_mean_error(self):
        self.assertEqual(errors.MeanError.__bases__, (ValueError,))
        for name in ("BadText", "Twice", "Unknown", "BadUse", "BadNumber", "TooLarge", "TooMany",
                     "Endless", "Dry", "Split", "Parted"):
            self.assertEqual(getattr(errors, name).__bases__, (errors.MeanError,))

    def test_attributes_are_given_by_position(self):
        self.assertEqual(errors.BadText(5).at, 5)
        self.assertEqual(errors.BadNumber(-3).value, -3)
        for kind in (errors.Twice, errors.Unknown, errors.BadUse, errors.TooLarge, errors.TooMany,
                     errors.Endless, errors.Dry, errors.Split):
            self.assertEqual(kind("ab").name, "ab")
        parted = errors.Parted(2, 7)
        self.assertEqual((parted.first, parted.second), (2, 7))

    def test_they_are_caught_as_value_errors(self):
        with self.assertRaises(ValueError):
            raise errors.Dry("s")
        with self.assertRaises(errors.MeanError):
            raise errors.BadText(0)
        self.assertIsInstance(str(errors.BadText(3)), str)
        self.assertIsInstance(str(errors.Parted(1, 2)), str)


if __name__ == "__main__":
    unittest.main()
