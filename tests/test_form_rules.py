"""The rules of tests/form_rules.py find the breaches that they are for: a net without a hole in this place."""

import ast
import textwrap
import unittest

from tests import form_effects, form_rules
from tests.test_form import RULES

WITHOUT_SETTER = """
class Put:
    def __init__(self, worth):
        self._value = worth

    @property
    def value(self):
        return self._value
"""

WITH_SETTER = WITHOUT_SETTER + """
    @value.setter
    def value(self, worth):
        raise AttributeError("value")
"""


def package(**files):
    """A package of files with these texts."""
    return {name + ".py": ast.parse(textwrap.dedent(text)) for name, text in files.items()}


class TestSetters(unittest.TestCase):
    def assigned(self, row):
        return "def give(it, rows):\n    " + row + "\n"

    def test_a_property_without_setter_that_is_assigned_elsewhere(self):
        told = "class Wrong(ValueError):\n    def __init__(self, value):\n        self.value = value\n"
        found = form_rules.assigned_without_setter(package(errors=told, statements=WITHOUT_SETTER))
        self.assertEqual(found, [("errors.py", 3, "value")])
        self.assertEqual(form_rules.assigned_without_setter(package(errors=told, statements=WITH_SETTER)), [])

    def test_one_class_with_and_one_without(self):
        told = package(one=WITH_SETTER, other=WITHOUT_SETTER, more=self.assigned("it.value = 1"))
        self.assertEqual(form_rules.assigned_without_setter(told), [("more.py", 2, "value")])

    def test_in_its_own_file(self):
        told = package(one=WITHOUT_SETTER + "\n    def give(self):\n        self.value = 1\n")
        self.assertEqual(form_rules.assigned_without_setter(told), [("one.py", 11, "value")])

    def test_all_ways_to_assign(self):
        rows = [
            "it.value = 1", "it.value += 1", "it.value: int = 1", "it.value, _ = rows", "(it.value) = 1",
            "_, (*it.value, _) = rows", "_ = it.value = 1", "it.other.value = 1", "rows[0].value = 1",
            "for it.value in rows: pass", "for _, it.value in rows: pass", "setattr(it, 'value', 1)", "del it.value",
            "with rows as it.value: pass", "_ = [1 for it.value in rows]", "(lambda: 0).value = 1",
        ]
        for row in rows:
            found = form_rules.assigned_without_setter(package(one=WITHOUT_SETTER, other=self.assigned(row)))
            self.assertEqual(found, [("other.py", 2, "value")], row)
            self.assertEqual(form_rules.assigned_without_setter(package(one=WITH_SETTER, other=self.assigned(row))), [])

    def test_what_is_no_breach(self):
        for row in ["it._value = 1", "it.values = 1", "it.worth = it.value", "value = 1", "it[0] = it.value"]:
            found = form_rules.assigned_without_setter(package(one=WITHOUT_SETTER, other=self.assigned(row)))
            self.assertEqual(found, [], row)


# For each rule some code without a breach, and some in each of which it finds one.
SAMPLES = {
    form_rules.names_with_two_meanings: (
        "class A:\n    LIMIT = 1\n    def __init__(self):\n        self._told = 0\n    def told(self):\n        return self._told",
        [
            "class A:\n    def __init__(self):\n        self.told = 0\n    def told(self):\n        return 1",
            "class A:\n    def __init__(self):\n        self.told = 0\nclass B:\n    def told(self):\n        return 1",
            "class A:\n    @property\n    def host(self):\n        return 0\nclass B:\n    def host(self):\n        return 1",
            "class A:\n    @property\n    def items(self):\n        return 0",
            "class A:\n    LIMIT = 1\n    def LIMIT(self):\n        return 1",
        ],
    ),
    form_rules.attributes_that_nothing_has: (
        "class A:\n    def __init__(self):\n        self.a = []\n    def b(self):\n        return self.a.count(1) + self.b()",
        ["def f(x):\n    return x.other", "def f(x):\n    return x.sort()", "def f(x):\n    return x.union([])"],
    ),
    form_rules.assigned_to_no_local_name: (
        "def f(x):\n    x.a = 1\n    x.a += 1\n    return x.a.b[0].c",
        ["def f(x):\n    x.a.b = 1", "def f(x):\n    x[0].a = 1", "def f(x):\n    x().a += 1"],
    ),
    form_rules.not_iterated_at_once: (
        "def f(d):\n    for k, v in d.items():\n        pass\n    return list(d), [v for v in d.values()], list(zip(d, range(3)))",
        [
            "def f(d):\n    return d.items()", "def f(d):\n    x = zip(d, d)", "def f(d):\n    return [*d.values()]",
            "def f(d):\n    return set(d.values())", "def f(d):\n    return len(d.keys())", "def f(d):\n    g(enumerate(d))",
        ],
    ),
    form_rules.sets_out_of_place: (
        "def f(d):\n    return len(set(d)), sorted({k for k in d})",
        ["def f(d):\n    s = set()", "def f(d):\n    return {1, 2}", "def f(d):\n    for k in set(d):\n        pass"],
    ),
    form_rules.compared_by_is: (
        "def f(x):\n    return x is None, x is not True, x == 1",
        ["def f(x, y):\n    return x is y", "def f(x):\n    return x is not 1"],
    ),
    form_rules.annotated: (
        "def f(x, *y):\n    z = x",
        ["def f(x: int):\n    pass", "def f() -> int:\n    pass", "def f(x):\n    z: int = x"],
    ),
    form_rules.kinds_of_statements: (
        '"""Doc."""\ndef f(x):\n    """Doc."""\n    f(x)\n    while x:\n        del x[0]\n    return [y for y in x]',
        [
            "def f(x):\n    yield x", "def f(x):\n    yield from x", "def f(x):\n    global y", "def f(x):\n    x[0]",
            "def f(x):\n    return list(y for y in x)", "def f(x):\n    if (y := x):\n        pass", "import os",
        ],
    ),
    form_rules.errors_of_python: (
        "class Bad(ValueError):\n    pass\ndef f(x):\n    try:\n        f(x)\n    except Bad:\n        raise\n    raise Bad(x)",
        [
            "def f(x):\n    try:\n        pass\n    except ValueError:\n        pass", "def f(x):\n    raise x",
            "class Bad(ValueError):\n    pass\ndef f(x):\n    try:\n        pass\n    except (Bad, TypeError):\n        pass",
            "class Bad(ValueError):\n    pass\ndef f(x):\n    raise Bad", "def f(x):\n    raise x.wrong()",
        ],
    ),
    form_rules.sorted_without_key: (
        "def f(x):\n    return sorted(x, key=str)",
        ["def f(x):\n    return sorted(x)", "def f(x):\n    return max(x, key=f)", "def f(x):\n    return min(x)"],
    ),
    form_rules.names_given_twice: (
        "from hookvows.a import b\nTABLE = 1\nclass A:\n    def c(self, d):\n        e = d",
        [
            "from hookvows.a import b\ndef f(b):\n    pass", "class A:\n    pass\ndef f():\n    A = 1", "TABLE = 1\ndef f(TABLE):\n    pass",
            "def f(id):\n    pass", "def f(x):\n    next = x", "def f():\n    f = 1", "def f(x):\n    return [map for map in x]",
        ],
    ),
    form_rules.read_underscores: (
        "def f(x):\n    a, _ = x\n    return [a for _ in x]", ["def f(x):\n    a, _ = x\n    return _"],
    ),
    form_rules.stars_in_calls: (
        "def f(*x):\n    return f(*x), f(1, *x), [*g(x)]",
        ["def f(x):\n    f(*x.y)", "def f(x):\n    f(*[1])", "def f(x):\n    f(**x)", "def f(x):\n    f(*g(x))"],
    ),
    form_rules.changed_tables: (
        "TABLE = {1: 2}\ndef f(x):\n    return TABLE[x], x in TABLE, TABLE.get(x), [k for k in TABLE], len(TABLE), dict(TABLE)",
        [
            "TABLE = {1: 2}\ndef f(x):\n    TABLE[x] = 1", "TABLE = [1]\ndef f(x):\n    TABLE.append(x)",
            "TABLE = [1]\ndef f(x):\n    return TABLE", "TABLE = [1]\ndef f(x):\n    f(TABLE)", "TABLE = [1]\ndef f(x):\n    x.a = TABLE",
        ],
    ),
    form_rules.names_of_values: (
        "class A:\n    def __init__(self):\n        self.told = 1\n    def remove(self):\n        pass\n    def add(self):\n        pass",
        [
            "def f(x):\n    x.items = 1", "def f(x):\n    x.sort = 1", "class A:\n    def decode(self):\n        pass",
            "class A:\n    def union(self):\n        pass",
        ],
    ),
    form_rules.keywords_of_builtins: (
        "def f(x, y):\n    return f(x, y=1), sorted(x, key=str, reverse=True), list(enumerate(x, start=1)), max(x, default=0)",
        ["def f(x):\n    return int(x, base=2)", "def f(x):\n    return x.split(sep=1)", "def f(x):\n    return len(obj=x)"],
    ),
    form_rules.literals_in_format_strings: (
        "def f(x):\n    return f'{x} of {len(x) + 1}'",
        ["def f(x):\n    return f'{x[\"a\"]}'", "def f(x):\n    return f'{x:>5}'"],
    ),
    form_rules.static_names: (
        "class A:\n    @staticmethod\n    def every(x):\n        return A()\n    def told(self):\n        return A.every(1), self.every(2)",
        [
            "class A:\n    @staticmethod\n    def every(x):\n        return x\nclass B:\n    def every(self):\n        return 1",
            "class A:\n    @staticmethod\n    def every(x):\n        return x\ndef f(x):\n    x.every = 1",
            "class A:\n    @staticmethod\n    def every(x):\n        return x\ndef f(x):\n    return f(A.every)",
            "class A:\n    @staticmethod\n    def count(x):\n        return x",
        ],
    ),
    form_rules.items_without_iteration: (
        "class A:\n    def __getitem__(self, at):\n        return at\n    def __iter__(self):\n        raise TypeError('no')",
        [
            "class A:\n    def __getitem__(self, at):\n        return at",
            "class A:\n    def __getitem__(self, at):\n        return at\n    def __iter__(self):\n        return iter(self.a)",
            "class A:\n    def __getitem__(self, at):\n        return at\n    def __iter__(self):\n        raise TypeError('no')\n"
            "    def keys(self):\n        return 1",
        ],
    ),
    form_rules.parameters_of_operators: (
        "class A:\n    def __init__(self, *a):\n        pass\n    def __setitem__(self, at, worth):\n        pass\n"
        "    def __and__(self, other):\n        return 1\n    def __invert__(self):\n        return 1",
        [
            "class A:\n    def __and__(self, other=1):\n        return 1", "class A:\n    def __getitem__(self, *at):\n        return 1",
            "class A:\n    def __setitem__(self, at):\n        pass", "class A:\n    @staticmethod\n    def __le__(a, b):\n        return 1",
            "class A:\n    def __invert__(self, other):\n        return 1", "class A:\n    def __contains__(self, x, y):\n        return 1",
        ],
    ),
    form_rules.orders_that_meet: (
        "class A:\n    def __lt__(self, other):\n        return 1\n    def __le__(self, other):\n        return 1",
        [
            "class A:\n    def __lt__(self, other):\n        return 1\n    def __gt__(self, other):\n        return 1",
            "class A:\n    def __le__(self, other):\n        return 1\n    def __ge__(self, other):\n        return 1",
            "from heapq import heappush\nclass A:\n    def __lt__(self, other):\n        return 1",
        ],
    ),
    form_rules.default_values: (
        "def f(x, y=1, z=(), *w, v=None):\n    pass", ["def f(x=[]):\n    pass", "def f(x=f()):\n    pass", "def f(*, x={}):\n    pass"],
    ),
    form_effects.operators_that_change: (
        "class A:\n    def __init__(self, a):\n        self.a = a\n    def __add__(self, other):\n        b = []\n        b.append(1)\n"
        "        b[0] = 2\n        return A(b + list(other))\n    def go(self):\n        self.a = 1",
        [
            "class A:\n    def __eq__(self, other):\n        self.a = 1\n        return True",
            "class A:\n    @property\n    def a(self):\n        self._a.append(1)\n        return 1",
            "class A:\n    def __len__(self):\n        return len(f(self.a))\ndef f(x):\n    x.pop()\n    return x",
            "class A:\n    def __contains__(self, x):\n        return self.go(x)\n    def go(self, x):\n        x[0] = 1\n        return True",
            "class A:\n    def __sub__(self, other):\n        return other(1)",
            "class A:\n    def __add__(self, other):\n        return B(other)\nclass B:\n    def __init__(self, x):\n        x.append(1)",
            "class A:\n    def __add__(self, other):\n        b = other\n        b.append(1)\n        return b",
            "class A:\n    def __add__(self, other):\n        b = []\n        b += other\n        return b",
            "class A:\n    def __add__(self, other):\n        return self.steps[0](other)",
            "class A:\n    def __add__(self, other):\n        return other.cost\nclass B:\n    @property\n    def cost(self):\n"
            "        self._x = 1\n        return 1",
        ],
    ),
    form_effects.lengths_that_are_none: (
        "class A:\n    def __init__(self):\n        self.a = 1\n    def __len__(self):\n        return len(self.a)",
        ["class A:\n    def __len__(self):\n        return self.a", "class A:\n    def __init__(self):\n        return None"],
    ),
    form_effects.special_methods_without_return: (
        "class A:\n    def __eq__(self, other):\n        return True", ["class A:\n    def __eq__(self, other):\n        if other:\n            return True"],
    ),
    form_effects.exits_that_do_more: (
        "class A:\n    def __exit__(self, kind, value, trace):\n        net = self.net\n        net.there = False\n        self.net = net.outer\n"
        "        self.shut()\n    def shut(self):\n        rows = self.rows\n        rows.now = self.now",
        [
            "class A:\n    def __exit__(self, kind, value, trace):\n        self.net = self.net.outer",
            "class A:\n    def __exit__(self, kind, value, trace):\n        self.shut()\n    def shut(self):\n        self.rows.pop()",
            "class A:\n    def __exit__(self, kind, value, trace):\n        self.shut(1)\n    def shut(self, a):\n        self.rows = a",
            "class A:\n    def __exit__(self, kind, value, trace):\n        self.shut()",
            "class A:\n    def __exit__(self, kind, value, trace):\n        self.net.remove(1)",
            "class A:\n    def __exit__(self, kind, value, trace):\n        self.net = value",
            "class A:\n    def __exit__(self, kind, value, trace):\n        self.net = self.f()",
            "class A:\n    def __exit__(self, kind, value, trace):\n        a = self.net\n        b = self.net",
            "class A:\n    def __exit__(self, kind):\n        self.net = 1",
            "class A:\n    def __exit__(self, kind, value, trace):\n        self.rows[0] = 1",
        ],
    ),
    form_effects.wrong_arguments: (
        "class A:\n    def __init__(self, a, b=1):\n        self.c(a)\n    def c(self, *d):\n        return A(1, b=2)\ndef f(x):\n    return f(A(x))",
        [
            "def f(x):\n    return f()", "def f(x):\n    return f(1, 2)", "class A:\n    def __init__(self, a):\n        A()",
            "class A:\n    def go(self, a):\n        self.go()",
        ],
    ),
    form_effects.changed_in_their_own_loop: (
        "def f(xs, d):\n    for x in list(xs):\n        xs.append(x)\n    for k, v in d.items():\n        xs[k] = v",
        [
            "def f(xs):\n    for x in xs:\n        xs.append(x)", "def f(d):\n    for k, v in d.items():\n        d[k] = v",
            "def f(a):\n    for x in a.b:\n        a.b.pop()", "def f(xs):\n    for n, x in enumerate(xs):\n        del xs[n]",
            "def f(xs):\n    for x in xs:\n        xs = x",
        ],
    ),
}


WRONG_ERROR = "class Wrong(ValueError):\n    def __init__(self, value):\n        self.value = value\n"

BAG = """
class Bag:
    def __init__(self, rows):
        if not rows:
            raise Wrong(rows)
        self._rows = rows

    def __add__(self, other):
        return Bag(self._rows + other)

    def __sub__(self, other):
        return self.less(other)

    def less(self, other):
        raise Wrong(other)

    @property
    def most(self):
        return self.other_bag()

    def other_bag(self):
        return Bag(self._rows)

    def __len__(self):
        return len(self._rows)

    def change(self):
        self.value = 1
"""


class TestSettersThatOperatorsRun(unittest.TestCase):
    """The breach of issue 10: an operator raises an error that has an attribute of the name of a setter."""

    def test_errors_that_operators_raise(self):
        told = package(errors=WRONG_ERROR, bags=BAG, statements=WITH_SETTER)
        found = form_effects.operators_that_run_setters(told)
        self.assertEqual(found, [("bags.py", 8, "__add__"), ("bags.py", 11, "__sub__"), ("bags.py", 18, "most")])

    def test_no_setter_of_this_name(self):
        plain = "class Put:\n    def __init__(self, value):\n        self.value = value\n"
        for statements in [plain, WITH_SETTER.replace("value", "told")]:
            told = package(errors=WRONG_ERROR, bags=BAG, statements=statements)
            self.assertEqual(form_effects.operators_that_run_setters(told), [])

    def test_setattr_and_attributes_of_others(self):
        for row in ["setattr(other, 'value', 1)", "other.value = 1", "other.value += 1", "Wrong(1)"]:
            bag = "class Bag:\n    def __contains__(self, other):\n        " + row + "\n        return True\n"
            told = package(errors=WRONG_ERROR, bags=bag, statements=WITH_SETTER)
            self.assertEqual(form_effects.operators_that_run_setters(told), [("bags.py", 2, "__contains__")], row)


class TestRules(unittest.TestCase):
    def test_each_rule_has_a_test(self):
        apart = {form_rules.assigned_without_setter, form_effects.operators_that_run_setters}
        self.assertEqual(set(RULES), {*apart, *SAMPLES})

    def test_no_breach(self):
        for rule, (right, _) in SAMPLES.items():
            self.assertEqual(rule(package(right=right)), [], rule.__name__)

    def test_breaches(self):
        for rule, (right, wrong) in SAMPLES.items():
            for text in wrong:
                self.assertEqual({told[0] for told in rule(package(right="", wrong=text))}, {"wrong.py"}, (rule.__name__, text))
