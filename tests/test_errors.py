"""The constants and the error classes (points 7 and 8 and the interface)."""

import unittest

from heldorder import errors
from tests.support import PARAMETERS, Case

CONSTANTS = {
    "MOST_POINTS": 12,
    "MOST_TOLD": 8,
    "MOST_MADE": 400,
    "MOST_ROW": 24,
    "MOST_ROWS": 2000,
    "MOST_POWER": 1000,
    "MOST_LIST": 400,
    "MOST_CHECKED": 60,
    "MOST_LOTS": 4096,
    "MOST_EDITS": 40,
    "MOST_LINES": 60,
}


class Errors(Case):

    def test_constants(self):
        for name, value in CONSTANTS.items():
            with self.subTest(name=name):
                self.same(getattr(errors, name), value)

    def test_the_base_class_stands_directly_under_value_error(self):
        self.assertEqual(errors.HeldorderError.__bases__, (ValueError,))

    def test_each_class_stands_directly_under_the_base_class(self):
        self.assertEqual(len(PARAMETERS), 32)
        for name in PARAMETERS:
            with self.subTest(name=name):
                kind = getattr(errors, name)
                self.assertEqual(kind.__bases__, (errors.HeldorderError,))
                self.assertEqual(kind.__name__, name)
                self.assertEqual(kind.__module__, "heldorder.errors")

    def test_parameters_by_position(self):
        for name, parameters in PARAMETERS.items():
            values = [f"value of {parameter}" for parameter in parameters]
            error = getattr(errors, name)(*values)
            for parameter, value in zip(parameters, values):
                with self.subTest(name=name, parameter=parameter):
                    self.same(getattr(error, parameter), value)

    def test_parameters_by_name(self):
        for name, parameters in PARAMETERS.items():
            values = {parameter: ["value of", parameter] for parameter in reversed(parameters)}
            error = getattr(errors, name)(**values)
            for parameter, value in values.items():
                with self.subTest(name=name, parameter=parameter):
                    self.same(getattr(error, parameter), value)

    def test_values_are_not_checked(self):
        for name, parameters in PARAMETERS.items():
            for value in (None, True, -1, "", [], ((), [1]), 10 ** 29):
                error = getattr(errors, name)(*[value] * len(parameters))
                for parameter in parameters:
                    with self.subTest(name=name, parameter=parameter, value=value):
                        self.same(getattr(error, parameter), value)

    def test_classes_are_caught_by_name_and_as_value_errors(self):
        for name, parameters in PARAMETERS.items():
            for kind in (getattr(errors, name), errors.HeldorderError, ValueError):
                with self.subTest(name=name, kind=kind.__name__), self.assertRaises(kind):
                    raise getattr(errors, name)(*[0] * len(parameters))


if __name__ == "__main__":
    unittest.main()
