"""The names of the interface: each is defined where the document lists it, with its parameters and methods."""

import importlib
import inspect
import unittest

FUNCTIONS = {
    "hookvows.basics": {"is_integer": ["value"], "is_count": ["value"], "is_name": ["value"]},
}

STATEMENT_METHODS = {"bodies": [], "many": [], "__eq__": ["other"]}

# For each class its methods with their parameters, its properties and its class values.
CLASSES = {
    "hookvows.boxes": {
        "Boxes": (
            {
                "__init__": ["sizes"], "names": [], "size": ["box"], "states": [], "__len__": [],
                "__contains__": ["value"], "value_of": ["state", "box"], "put": ["state", "box", "value"],
                "text": ["state"], "read": ["text"], "__eq__": ["other"],
            },
            [],
            ["MOST_BOXES", "MOST_VALUES", "MOST_STATES"],
        ),
    },
    "hookvows.statements": {
        "Statement": (STATEMENT_METHODS, [], []),
        "Do": ({"__init__": ["step"], **STATEMENT_METHODS}, ["step"], []),
        "Put": ({"__init__": ["box", "value"], **STATEMENT_METHODS}, ["box", "value"], []),
        "Fire": ({"__init__": ["hook"], **STATEMENT_METHODS}, ["hook"], []),
        "Call": ({"__init__": ["deed"], **STATEMENT_METHODS}, ["deed"], []),
        "If": ({"__init__": ["box", "value", "body", "other"], **STATEMENT_METHODS}, ["box", "value"], []),
        "Last": ({"__init__": ["body", "last"], **STATEMENT_METHODS}, [], []),
        "Guard": ({"__init__": ["body", "other"], **STATEMENT_METHODS}, [], []),
        "Fail": (STATEMENT_METHODS, [], []),
    },
}


class TestInterface(unittest.TestCase):
    def test_functions(self):
        for module_name, functions in FUNCTIONS.items():
            module = importlib.import_module(module_name)
            for name, parameters in functions.items():
                function = getattr(module, name)
                self.assertEqual(function.__module__, module_name)
                self.assertEqual(list(inspect.signature(function).parameters), parameters)

    def test_classes(self):
        for module_name, classes in CLASSES.items():
            module = importlib.import_module(module_name)
            for name, (methods, properties, values) in classes.items():
                kind = getattr(module, name)
                self.assertEqual(kind.__module__, module_name)
                own = vars(kind)
                for method, parameters in methods.items():
                    self.assertIn(method, own, name)
                    self.assertEqual(list(inspect.signature(own[method]).parameters)[1:], parameters, (name, method))
                for told in properties:
                    self.assertIsInstance(own[told], property)
                for value in values:
                    self.assertIsInstance(own[value], int)

    def test_the_package_itself_binds_nothing(self):
        package = importlib.import_module("hookvows")
        listed = {"errors", "basics", "boxes", "statements"}
        there = {name for name in vars(package) if not name.startswith("__")}
        self.assertEqual(there - listed, set())
