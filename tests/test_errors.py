"""Point [2] and errors.py: the error classes."""

import unittest

from housewardens import errors
from tests.helpers import wild_values

PARAMETERS = {
    "BadBook": "part",
    "BadDevice": "part",
    "BadWard": "part",
    "BadGuest": "part",
    "BadOnlooker": "part",
    "BadText": "line",
    "BadChoice": "choice",
    "TooMany": "most",
    "CannotCome": "place",
    "Refused": "paper",
    "NeverSure": "paper",
    "NeverStays": "number",
    "Uncaught": "paper",
    "OtherFaces": None,
    "BadName": "name",
    "NameTaken": "name",
    "NoWard": "name",
    "NotHeard": "heard",
    "NotAlike": "log",
    "Harmful": "paper",
    "NothingToUndo": None,
    "NothingToRedo": None,
    "InvalidCommand": None,
}


class Errors(unittest.TestCase):
    def test_base(self):
        self.assertEqual(errors.WardError.__bases__, (Exception,))

    def test_all_are_there_and_no_more(self):
        found = {name for name, thing in vars(errors).items() if isinstance(thing, type)}
        self.assertEqual(found, set(PARAMETERS) | {"WardError"})
        self.assertEqual(len(PARAMETERS), 23)

    def test_direct_subclasses_of_the_base_alone(self):
        for name in PARAMETERS:
            self.assertEqual(getattr(errors, name).__bases__, (errors.WardError,), name)

    def test_parameters_are_attributes_unchanged(self):
        for name, parameter in PARAMETERS.items():
            if parameter is None:
                continue
            for thing in wild_values():
                by_position = getattr(errors, name)(thing)
                by_name = getattr(errors, name)(**{parameter: thing})
                self.assertIs(getattr(by_position, parameter), thing)
                self.assertIs(getattr(by_name, parameter), thing)

    def test_parameters_are_needed(self):
        for name, parameter in PARAMETERS.items():
            if parameter is not None:
                with self.assertRaises(TypeError):
                    getattr(errors, name)()

    def test_can_be_raised_and_caught_by_the_base(self):
        for name, parameter in PARAMETERS.items():
            told = {} if parameter is None else {parameter: ()}
            with self.assertRaises(errors.WardError):
                raise getattr(errors, name)(**told)


if __name__ == "__main__":
    unittest.main()
