"""The errors: their bases, their parameters and their attributes."""

import unittest

from hookvows import errors
from tests.samples import containers, odd_values

BASES = {
    "HookError": ValueError, "MissingError": LookupError, "StateError": RuntimeError, "LimitError": ArithmeticError,
}

WITH_VALUE = {
    "HookError": [
        "InvalidName", "InvalidSizes", "InvalidBoxes", "InvalidState", "InvalidValue", "InvalidStates", "InvalidBody",
        "InvalidDeeds", "InvalidHooks", "InvalidOpen", "InvalidPowers", "InvalidHost", "InvalidRank", "InvalidPlay",
        "InvalidParts", "InvalidVow", "InvalidVows", "InvalidWays", "InvalidPrices", "InvalidClaim", "InvalidCommand",
    ],
    "MissingError": ["UnknownBox", "UnknownDeed", "UnknownHook", "UnknownVow", "UnknownPart"],
    "StateError": ["NotOpen"],
}

OTHERS = {
    "InvalidDeed": ("HookError", ["name"]),
    "InvalidHook": ("HookError", ["name"]),
    "InvalidScript": ("HookError", ["position"]),
    "InvalidText": ("HookError", ["line"]),
    "OtherBoxes": ("StateError", ["one", "other"]),
    "OtherHosts": ("StateError", ["one", "other"]),
    "NothingToUndo": ("StateError", []),
    "CommandFailed": ("StateError", ["position"]),
    "TooMany": ("LimitError", ["what", "limit"]),
}


def all_errors():
    """Tuples of the class of an error, its base, and the names of its parameters."""
    found = []
    for base, names in WITH_VALUE.items():
        found += [(getattr(errors, name), getattr(errors, base), ["value"]) for name in names]
    for name, (base, parameters) in OTHERS.items():
        found.append((getattr(errors, name), getattr(errors, base), parameters))
    return found


class TestBases(unittest.TestCase):
    def test_the_four_bases_derive_from_errors_of_python_alone(self):
        for name, builtin in BASES.items():
            self.assertEqual(getattr(errors, name).__bases__, (builtin,))

    def test_each_error_derives_directly_from_the_one_in_front_of_it_alone(self):
        for error, base, _ in all_errors():
            self.assertEqual(error.__bases__, (base,), error)

    def test_there_are_no_other_classes(self):
        listed = set(BASES) | {error.__name__ for error, _, _ in all_errors()}
        there = {name for name, value in vars(errors).items() if isinstance(value, type)}
        self.assertEqual(there, listed)
        self.assertEqual(len(all_errors()), 25 + 5 + 5 + 1)

    def test_they_are_defined_in_this_file_under_their_names(self):
        for name in [*BASES, *[error.__name__ for error, _, _ in all_errors()]]:
            self.assertEqual(getattr(errors, name).__name__, name)
            self.assertEqual(getattr(errors, name).__module__, "hookvows.errors")

    def test_they_are_caught_as_their_bases_and_by_no_other_class(self):
        for error, base, parameters in all_errors():
            with self.assertRaises(base):
                raise error(*parameters)
            for other, _, _ in all_errors():
                self.assertEqual(issubclass(error, other), error is other)


class TestAttributes(unittest.TestCase):
    def values(self):
        return [0, -3, True, "", "a", *odd_values(), *containers(), errors.InvalidName(1), errors.TooMany]

    def test_by_position(self):
        for error, _, parameters in all_errors():
            for value in self.values() if parameters else []:
                made = error(*[value for _ in parameters])
                for parameter in parameters:
                    self.assertIs(getattr(made, parameter), value)

    def test_by_name(self):
        for error, _, parameters in all_errors():
            for value in self.values() if parameters else []:
                made = error(**{parameter: value for parameter in parameters})
                for parameter in parameters:
                    self.assertIs(getattr(made, parameter), value)

    def test_several_parameters_stand_in_their_sequence(self):
        for error, _, parameters in all_errors():
            made = error(*range(len(parameters)))
            self.assertEqual([getattr(made, parameter) for parameter in parameters], list(range(len(parameters))))
            turned = error(**{parameter: at for at, parameter in reversed(list(enumerate(parameters)))})
            self.assertEqual([getattr(turned, parameter) for parameter in parameters], list(range(len(parameters))))

    def test_an_error_has_the_attributes_of_its_parameters_alone(self):
        for error, _, parameters in all_errors():
            self.assertEqual(sorted(vars(error(*parameters))), sorted(parameters))

    def test_they_take_no_more_and_no_less(self):
        for error, _, parameters in all_errors():
            with self.assertRaises(TypeError):
                error(*parameters, 0)
            if parameters:
                with self.assertRaises(TypeError):
                    error(*parameters[1:])

    def test_nothing_to_undo_takes_nothing(self):
        self.assertEqual(vars(errors.NothingToUndo()), {})
        for arguments in [("a",), (None,), (0, 1)]:
            with self.assertRaises(TypeError):
                errors.NothingToUndo(*arguments)
        with self.assertRaises(TypeError):
            errors.NothingToUndo(value=0)

    def test_each_object_has_its_own_attributes(self):
        first = errors.InvalidName("A")
        errors.InvalidName("B")
        self.assertEqual(first.value, "A")
