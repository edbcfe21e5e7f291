"""[0.6]: the errors."""

import inspect
import unittest

from neverfactored import errors

TOLD = {
    "BadRatio": ["what"], "DividedByNought": [], "Pole": ["at"], "BadElement": ["index"], "BadText": ["line", "what"],
    "BadTower": ["what", "place"], "NoPlace": ["place"], "NoLetter": ["letter"], "BadSystem": ["what", "place"],
    "TooMany": ["most"], "OtherLetters": [], "NotMonic": [], "ZeroNote": [], "HasFree": [],
    "BadProgram": ["line", "what"], "BadPoint": ["index", "what"], "LackingLetter": ["letter"], "NoPoint": [],
    "NotOne": [], "NoMark": ["mark"], "NoneMarked": [], "BadSaying": ["what"], "BadPrefix": ["many"],
    "BadLot": ["what"], "NoFree": [],
}
# Raised and caught within the package alone.
WITHIN = {"Parted": ["element", "zeros", "others"]}


class ErrorsTest(unittest.TestCase):

    def test_the_list_is_whole(self):
        classes = {name for name, thing in vars(errors).items() if inspect.isclass(thing)}
        self.assertEqual(classes, set(TOLD) | set(WITHIN) | {"RootError"})

    def test_root_error_is_straight_under_value_error(self):
        self.assertEqual(errors.RootError.__bases__, (ValueError,))

    def test_each_is_straight_under_root_error_and_defined_there(self):
        for name in TOLD | WITHIN:
            error = getattr(errors, name)
            self.assertEqual(error.__bases__, (errors.RootError,), name)
            self.assertEqual(error.__module__, "neverfactored.errors")

    def test_made_by_place(self):
        for name, attributes in (TOLD | WITHIN).items():
            values = [object() for _ in attributes]
            self.assertEqual(vars(getattr(errors, name)(*values)), dict(zip(attributes, values)), name)

    def test_made_by_name(self):
        for name, attributes in (TOLD | WITHIN).items():
            values = {attribute: object() for attribute in reversed(attributes)}
            self.assertEqual(vars(getattr(errors, name)(**values)), values, name)

    def test_neither_fewer_nor_more_attributes(self):
        for name, attributes in (TOLD | WITHIN).items():
            if attributes:
                with self.assertRaises(TypeError):
                    getattr(errors, name)(*attributes[1:])
                with self.assertRaises(TypeError):
                    getattr(errors, name)(*attributes, 1)

    def test_caught_as_its_own_class_and_as_the_root(self):
        for name, attributes in (TOLD | WITHIN).items():
            error = getattr(errors, name)
            for caught in (error, errors.RootError, ValueError):
                try:
                    raise error(*attributes)
                except caught as found:
                    self.assertIsInstance(found, error)

    def test_not_caught_as_another_one(self):
        for name, attributes in (TOLD | WITHIN).items():
            error = getattr(errors, name)(*attributes)
            for other in TOLD:
                self.assertEqual(isinstance(error, getattr(errors, other)), other == name)


if __name__ == "__main__":
    unittest.main()
