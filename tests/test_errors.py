"""Point 3: the errors, their base classes and their fields."""

import unittest

from comesapart import errors

ONE_FIELD = {
    "TooLarge": "limit", "BadLine": "line", "UnknownPlace": "place", "BadSides": "place", "UnknownTie": "tie",
    "BadStep": "step", "Repeated": "step", "UnknownPoint": "point", "UnknownPair": "pair", "SamePoint": "point",
    "BadLink": "link", "BadNode": "node", "UnknownTerm": "term",
}


class ErrorTests(unittest.TestCase):
    def test_base_class_is_a_value_error(self):
        self.assertEqual((ValueError,), errors.ComesapartError.__bases__)

    def test_classes_with_one_field(self):
        for name, field in ONE_FIELD.items():
            error_class = getattr(errors, name)
            self.assertEqual((errors.ComesapartError,), error_class.__bases__)
            for value in (0, 7, -3, 10 ** 30):
                self.assertEqual({field: value}, vars(error_class(value)))
                self.assertEqual({field: value}, vars(error_class(**{field: value})))

    def test_unknown_side_has_two_fields(self):
        self.assertEqual((errors.ComesapartError,), errors.UnknownSide.__bases__)
        self.assertEqual({"place": 3, "side": 5}, vars(errors.UnknownSide(3, 5)))
        self.assertEqual({"place": 3, "side": 5}, vars(errors.UnknownSide(place=3, side=5)))

    def test_classes_without_fields(self):
        for error_class in (errors.NotATurningCycle, errors.NoLinks):
            self.assertEqual((errors.ComesapartError,), error_class.__bases__)
            self.assertEqual({}, vars(error_class()))

    def test_an_error_equals_no_other_value(self):
        for error in (errors.TooLarge(200), errors.NoLinks(), errors.UnknownSide(1, 2)):
            for other in (200, (1, 2), ValueError(200), None):
                self.assertFalse(error == other)

    def test_errors_are_caught_as_value_errors(self):
        with self.assertRaises(ValueError):
            raise errors.UnknownSide(1, 2)


if __name__ == "__main__":
    unittest.main()
