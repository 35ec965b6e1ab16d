"""The rules of tests/form_rules.py find the breaches that they are for: a net without a hole in this place."""

import ast
import textwrap
import unittest

from tests import form_rules

WITHOUT_SETTER = """
class Put:
    def __init__(self, worth):
        self._value = worth

    @property
    def value(self):
        return self._value
"""

WITH_SETTER = WITHOUT_SETTER + """
    @value.setter
    def value(self, worth):
        raise AttributeError("value")
"""


def package(**files):
    """A package of files with these texts."""
    return {name + ".py": ast.parse(textwrap.dedent(text)) for name, text in files.items()}


class TestSetters(unittest.TestCase):
    def assigned(self, row):
        return "def give(it, rows):\n    " + row + "\n"

    def test_a_property_without_setter_that_is_assigned_elsewhere(self):
        told = "class Wrong(ValueError):\n    def __init__(self, value):\n        self.value = value\n"
        found = form_rules.assigned_without_setter(package(errors=told, statements=WITHOUT_SETTER))
        self.assertEqual(found, [("errors.py", 3, "value")])
        self.assertEqual(form_rules.assigned_without_setter(package(errors=told, statements=WITH_SETTER)), [])

    def test_one_class_with_and_one_without(self):
        told = package(one=WITH_SETTER, other=WITHOUT_SETTER, more=self.assigned("it.value = 1"))
        self.assertEqual(form_rules.assigned_without_setter(told), [("more.py", 2, "value")])

    def test_in_its_own_file(self):
        told = package(one=WITHOUT_SETTER + "\n    def give(self):\n        self.value = 1\n")
        self.assertEqual(form_rules.assigned_without_setter(told), [("one.py", 11, "value")])

    def test_all_ways_to_assign(self):
        rows = [
            "it.value = 1", "it.value += 1", "it.value: int = 1", "it.value, _ = rows", "(it.value) = 1",
            "_, (*it.value, _) = rows", "_ = it.value = 1", "it.other.value = 1", "rows[0].value = 1",
            "for it.value in rows: pass", "for _, it.value in rows: pass", "setattr(it, 'value', 1)", "del it.value",
            "with rows as it.value: pass", "_ = [1 for it.value in rows]", "(lambda: 0).value = 1",
        ]
        for row in rows:
            found = form_rules.assigned_without_setter(package(one=WITHOUT_SETTER, other=self.assigned(row)))
            self.assertEqual(found, [("other.py", 2, "value")], row)
            self.assertEqual(form_rules.assigned_without_setter(package(one=WITH_SETTER, other=self.assigned(row))), [])

    def test_what_is_no_breach(self):
        for row in ["it._value = 1", "it.values = 1", "it.worth = it.value", "value = 1", "it[0] = it.value"]:
            found = form_rules.assigned_without_setter(package(one=WITHOUT_SETTER, other=self.assigned(row)))
            self.assertEqual(found, [], row)
