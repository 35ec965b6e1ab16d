"""The names of the interface: each is defined where the document lists it, with its parameters and methods."""

import importlib
import inspect
import unittest

FUNCTIONS = {
    "hookvows.basics": {"is_integer": ["value"], "is_count": ["value"], "is_name": ["value"]},
    "hookvows.scripts": {"is_act": ["value"]},
    "hookvows.live": {
        "call_with": ["live", "rank", "action", "*deeds"], "run_script": ["host", "deed", "state", "script"],
        "run_parts": ["host", "deed", "state", "parts"], "as_one": ["host", "deed", "state", "parts"],
        "play_all": ["host", "play"],
    },
    "hookvows.records": {
        "outcomes": ["host", "deed", "state"], "record": ["host"], "is_record": ["host", "value"], "sights": ["host"],
    },
    "hookvows.vows": {
        "is_kept": ["host", "vow"], "shows": ["host", "value", "vow"], "breaks": ["host", "play", "vow"],
    },
    "hookvows.plays": {
        "fewest_acts": ["host", "deed", "state", "way", "end"], "script_to": ["host", "deed", "state", "way", "end"],
        "breaking_cost": ["host", "vow"], "breaking_play": ["host", "vow"],
    },
    "hookvows.seals": {
        "keeps": ["host", "vows", "powers"], "least_seals": ["host", "vows", "powers"],
        "least_breaks": ["host", "vows", "powers"], "needed_seals": ["host", "vows", "powers"],
        "cheapest_seals": ["host", "vows", "prices"],
    },
    "hookvows.alike": {
        "sightings": ["host", "play", "steps"], "can_compare": ["one", "other"], "are_alike": ["one", "other", "steps"],
        "parting_play": ["one", "other", "steps"],
    },
    "hookvows.texts": {"host_text": ["host"], "read_host": ["text"]},
    "hookvows.judge": {"is_claim": ["value"], "is_certificate": ["claim", "value"], "certificate_of": ["claim"]},
    "hookvows.desk": {"tried": ["desk", "*commands"]},
}

STATEMENT_METHODS = {"bodies": [], "many": [], "__eq__": ["other"]}
VOW_METHODS = {"fits": ["host"], "__eq__": ["other"]}

# For each class its methods with their parameters, its properties and its class values.
CLASSES = {
    "hookvows.boxes": {
        "Boxes": (
            {
                "__init__": ["sizes"], "names": [], "size": ["box"], "states": [], "__len__": [],
                "__contains__": ["value"], "value_of": ["state", "box"], "put": ["state", "box", "value"],
                "text": ["state"], "read": ["text"], "__eq__": ["other"],
            },
            [],
            ["MOST_BOXES", "MOST_VALUES", "MOST_STATES"],
        ),
    },
    "hookvows.sets": {
        "States": (
            {
                "__init__": ["boxes", "states"], "states": [], "__len__": [], "__contains__": ["value"], "__and__": ["other"],
                "__or__": ["other"], "__sub__": ["other"], "__invert__": [], "__le__": ["other"], "__lt__": ["other"],
                "__eq__": ["other"],
            },
            ["boxes"],
            [],
        ),
    },
    "hookvows.vows": {
        "Vow": (VOW_METHODS, [], []),
        "Sure": ({"__init__": ["deed", "step", "*ways"], "ways": [], **VOW_METHODS}, ["deed", "step"], []),
        "Once": ({"__init__": ["deed", "step"], **VOW_METHODS}, ["deed", "step"], []),
        "Behind": ({"__init__": ["deed", "step", "first"], **VOW_METHODS}, ["deed", "step", "first"], []),
        "Whole": ({"__init__": ["hook", "allowed"], **VOW_METHODS}, ["hook", "allowed"], []),
        "Left": (
            {"__init__": ["deed", "begin", "ends", "*ways"], "ways": [], **VOW_METHODS}, ["deed", "begin", "ends"], [],
        ),
        "Kept": ({"__init__": ["allowed"], **VOW_METHODS}, ["allowed"], []),
    },
    "hookvows.desk": {
        "Desk": (
            {
                "__init__": ["host"], "set_host": ["host"], "__getitem__": ["at"], "__setitem__": ["at", "worth"],
                "drop": ["name"], "__len__": [], "names": [], "seal": ["powers"], "give": ["powers"], "broken": [],
                "undo": [], "copy": [], "do": ["command"], "do_all": ["*commands"],
            },
            ["host", "changes"],
            [],
        ),
        "Trial": ({"__init__": ["desk"], "__enter__": [], "__exit__": ["kind", "value", "trace"]}, [], []),
    },
    "hookvows.statements": {
        "Statement": (STATEMENT_METHODS, [], []),
        "Do": ({"__init__": ["step"], **STATEMENT_METHODS}, ["step"], []),
        # Their value is an attribute of each object: see tests/test_statements.py.
        "Put": ({"__init__": ["box", "value"], **STATEMENT_METHODS}, ["box"], []),
        "Fire": ({"__init__": ["hook"], **STATEMENT_METHODS}, ["hook"], []),
        "Call": ({"__init__": ["deed"], **STATEMENT_METHODS}, ["deed"], []),
        "If": ({"__init__": ["box", "value", "body", "other"], **STATEMENT_METHODS}, ["box"], []),
        "Last": ({"__init__": ["body", "last"], **STATEMENT_METHODS}, [], []),
        "Guard": ({"__init__": ["body", "other"], **STATEMENT_METHODS}, [], []),
        "Fail": (STATEMENT_METHODS, [], []),
    },
    "hookvows.hosts": {
        "Host": (
            {
                "__init__": ["boxes", "first", "deeds", "hooks", "open_deeds", "powers"], "deeds": [], "body": ["deed"],
                "hooks": [], "core": ["hook"], "open_deeds": [], "powers": [], "steps": [], "lets": ["power"],
                "__len__": [], "__contains__": ["value"], "__eq__": ["other"], "__sub__": ["other"],
                "__add__": ["other"], "from_state": ["state"], "all_powers": [],
            },
            ["boxes", "first"],
            ["MOST_DEEDS", "MOST_HOOKS", "MOST_STATEMENTS"],
        ),
    },
    "hookvows.scripts": {
        "Script": (
            {"__init__": ["*rows"], "rows": [], "__len__": [], "__add__": ["other"], "__eq__": ["other"]}, ["cost"], [],
        ),
        "Play": ({"__init__": ["calls", "script"], "calls": [], "__eq__": ["other"]}, ["script", "cost"], []),
    },
    "hookvows.live": {
        "Live": (
            {
                "__init__": ["host"], "set_state": ["state"], "add": ["rank", "action"], "remove": ["number"],
                "parts": [], "call": ["deed"],
            },
            ["host", "state"],
            [],
        ),
        "Guest": (
            {"__init__": ["live", "rank", "action"], "__enter__": [], "__exit__": ["kind", "value", "trace"]}, [], [],
        ),
        "Visit": (
            {
                "look": [], "lend": ["box", "value"], "door": ["deed"], "inner": [], "swallow": [], "answer": [],
                "skip": [], "fail": [],
            },
            ["hook", "rank"],
            [],
        ),
        "Driver": ({"__init__": ["script"], "__call__": ["visit"]}, ["left"], []),
        "Run": (
            {"trace": [], "doings": [], "looks": [], "sequence": []}, ["deed", "begin", "way", "state"], [],
        ),
    },
}


def parameters_of(function):
    """The names of the parameters; a star stands ahead of one that takes the rest."""
    parameters = inspect.signature(function).parameters.values()
    return [str(parameter).split("=")[0] for parameter in parameters]


class TestInterface(unittest.TestCase):
    def test_functions(self):
        for module_name, functions in FUNCTIONS.items():
            module = importlib.import_module(module_name)
            for name, parameters in functions.items():
                function = getattr(module, name)
                self.assertEqual(function.__module__, module_name)
                self.assertEqual(parameters_of(function), parameters)

    def test_classes(self):
        for module_name, classes in CLASSES.items():
            module = importlib.import_module(module_name)
            for name, (methods, properties, values) in classes.items():
                kind = getattr(module, name)
                self.assertEqual(kind.__module__, module_name)
                own = vars(kind)
                for method, parameters in methods.items():
                    self.assertIn(method, own, name)
                    self.assertEqual(parameters_of(own[method])[1:], parameters, (name, method))
                for told in properties:
                    self.assertIsInstance(own[told], property)
                for value in values:
                    self.assertIsInstance(own[value], int)

    def test_static_methods(self):
        kind = importlib.import_module("hookvows.sets").States
        for name, parameters in [("every", ["boxes"]), ("where", ["boxes", "box", "*values"])]:
            self.assertIsInstance(vars(kind)[name], staticmethod)
            self.assertEqual(parameters_of(getattr(kind, name)), parameters)

    def test_default_values(self):
        alike = importlib.import_module("hookvows.alike")
        for function in [alike.sightings, alike.are_alike, alike.parting_play]:
            self.assertIs(inspect.signature(function).parameters["steps"].default, False)

    def test_the_package_itself_binds_nothing(self):
        package = importlib.import_module("hookvows")
        listed = {"errors", "basics", "boxes", "sets", "statements", "hosts", "scripts", "live", "records", "vows", "plays"}
        listed |= {"seals", "alike", "texts", "judge", "desk"}
        # These are no part of the interface.
        listed |= {"bodies", "checks", "programs", "visits", "work", "commands", "facts", "flows", "graphs", "masks", "pairs"}
        listed |= {"phases", "plans", "routes", "search", "watches"}
        there = {name for name in vars(package) if not name.startswith("__")}
        self.assertEqual(there - listed, set())
