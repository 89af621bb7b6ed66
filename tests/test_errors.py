"""[3] The error classes and how they are related."""

import unittest

from openlane import errors

PLAIN = (
    "InvalidLane", "InvalidLog", "InvalidCar", "InvalidCars", "InvalidSides",
    "InvalidPattern", "InvalidSightings", "InvalidIndex", "InvalidText", "UnknownCar",
    "UsedCar", "EmptyLane", "NotPossible", "NothingToUndo",
)


class TestErrors(unittest.TestCase):

    def classes(self):
        return [getattr(errors, name) for name in PLAIN + ("TooLarge",)]

    def test_base_class(self):
        self.assertEqual(errors.LaneError.__bases__, (ValueError,))
        self.assertIsInstance(errors.LaneError(), ValueError)

    def test_every_error_is_a_lane_error_and_no_other_one(self):
        for kind in self.classes():
            with self.subTest(kind.__name__):
                related = [other for other in self.classes() if issubclass(kind, other)]
                self.assertEqual(related, [kind])
                self.assertTrue(issubclass(kind, errors.LaneError))
                self.assertTrue(issubclass(kind, ValueError))
                self.assertEqual(kind.__module__, "openlane.errors")

    def test_no_further_error_class(self):
        found = [name for name, value in vars(errors).items() if isinstance(value, type)]
        self.assertEqual(sorted(found), sorted(PLAIN + ("TooLarge", "LaneError")))

    def test_errors_without_arguments(self):
        for name in PLAIN:
            with self.subTest(name):
                with self.assertRaises(getattr(errors, name)):
                    raise getattr(errors, name)()

    def test_caught_as_value_error(self):
        for kind in self.classes():
            with self.assertRaises(ValueError):
                raise (kind(12) if kind is errors.TooLarge else kind())

    def test_too_large_keeps_its_limit(self):
        self.assertEqual(errors.TooLarge(12).limit, 12)
        self.assertEqual(errors.TooLarge(limit=10 ** 29).limit, 10 ** 29)
        with self.assertRaises(errors.TooLarge) as caught:
            raise errors.TooLarge(0)
        self.assertEqual(caught.exception.limit, 0)

    def test_limits_of_two_errors_are_apart(self):
        first, second = errors.TooLarge(1), errors.TooLarge(2)
        self.assertEqual((first.limit, second.limit), (1, 2))

    def test_too_large_needs_its_limit(self):
        with self.assertRaises(TypeError):
            errors.TooLarge()


if __name__ == "__main__":
    unittest.main()
