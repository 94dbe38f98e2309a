"""The error classes of the interface."""

import unittest

from fewbounds import errors
from fewbounds.errors import BadShelf, BadText, BoundError

NAMES = ("BadBound", "BadShelf", "BadName", "BadSet", "BadRequest", "BadPlan", "BadTree", "BadDoubt", "NotAllowed",
         "NotInstalled", "NothingDone", "BadText")


class ErrorsTest(unittest.TestCase):
    def test_bound_error_is_a_value_error(self):
        self.assertEqual(BoundError.__bases__, (ValueError,))
        self.assertEqual(BoundError.__module__, "fewbounds.errors")

    def test_each_error_is_a_direct_subclass_defined_in_the_file(self):
        for name in NAMES:
            with self.subTest(name):
                error = getattr(errors, name)
                self.assertEqual(error.__bases__, (BoundError,))
                self.assertEqual(error.__module__, "fewbounds.errors")
                self.assertIsInstance(error(), ValueError)

    def test_no_error_is_another_one(self):
        for name in NAMES:
            for other in NAMES:
                if name != other:
                    self.assertFalse(issubclass(getattr(errors, name), getattr(errors, other)))

    def test_attributes_are_set_when_the_object_is_created(self):
        self.assertEqual(BadShelf("NEEDS").part, "NEEDS")
        self.assertIsNone(BadShelf(None).part)
        self.assertIsNone(BadShelf().part)
        self.assertEqual(BadText(2).row, 2)
        self.assertEqual(BadText(row=3).row, 3)
        self.assertEqual(BadText().row, 0)

    def test_errors_do_not_share_attributes(self):
        one, two = BadShelf("BREAKS"), BadShelf("BOUNDS")
        self.assertEqual((one.part, two.part), ("BREAKS", "BOUNDS"))


if __name__ == "__main__":
    unittest.main()
