"""Rules of the form that take the whole package to be told: each function returns the places of the breaches.

A package is a dict from the names of its files to their trees. A place is a tuple: the name of the file, the row, and
what is at fault there. Some of the rules are stricter here than they have to be: what is plainer is easier to tell.
"""

import ast
import builtins

VALUE_METHODS = set(
    "append clear copy count endswith extend find get index insert isalnum isalpha isdigit islower isspace isupper items"
    " join keys ljust lower lstrip partition pop remove replace reverse rfind rjust rpartition rsplit rstrip setdefault"
    " split splitlines startswith strip update upper values zfill bit_length".split()
)
CHANGING = {"append", "clear", "extend", "insert", "pop", "remove", "reverse", "setdefault", "update", "sort", "discard"}
VIEWS = {"items", "keys", "values"}
ITERATED_AT_ONCE = {"zip", "enumerate", "reversed", "map"}
ITERATING = {"list", "tuple", "dict", "sorted", "sum", "any", "all", "enumerate", "zip"}
OPERATORS = set(
    "__eq__ __len__ __repr__ __str__ __contains__ __add__ __sub__ __and__ __or__ __invert__ __lt__ __le__ __gt__ __ge__"
    " __ne__ __neg__ __bool__ __getitem__".split()
)
MEMBERS_OF_VALUES = {name for value in ["", 0, [], {}, (), set(), b""] for name in dir(value)}
STATEMENTS = (
    ast.Assign, ast.AugAssign, ast.If, ast.While, ast.For, ast.Return, ast.Break, ast.Continue, ast.Pass, ast.Raise,
    ast.Assert, ast.Delete, ast.Match, ast.With, ast.Try, ast.Expr, ast.FunctionDef, ast.ClassDef, ast.ImportFrom,
)


def nodes(trees, *kinds):
    """All nodes of these kinds, each with the name of its file."""
    return [
        (file_name, node) for file_name, tree in trees.items() for node in ast.walk(tree) if isinstance(node, kinds)
    ]


def place(file_name, node, told=""):
    """The place of a breach."""
    return (file_name, node.lineno, told or ast.unparse(node))


def classes(trees):
    """All classes of the package."""
    return [node for _, node in nodes(trees, ast.ClassDef)]


def methods(kind):
    """The functions that stand in the body of a class."""
    return [node for node in kind.body if isinstance(node, ast.FunctionDef)]


def decorators(function):
    """The decorators of a function, as they are written."""
    return [ast.unparse(node) for node in function.decorator_list]


def parents(tree):
    """For each node the one around it."""
    return {child: node for node in ast.walk(tree) for child in ast.iter_child_nodes(node)}


def called_name(node):
    """The bare name that is called, if the node is a call of one."""
    return node.func.id if isinstance(node, ast.Call) and isinstance(node.func, ast.Name) else ""


def called_method(node):
    """The name of the method that is called, if the node is a call of one."""
    return node.func.attr if isinstance(node, ast.Call) and isinstance(node.func, ast.Attribute) else ""


def own_attributes(trees):
    """The names of all attributes that are assigned."""
    return {name for _, _, name in assigned_attributes(trees)}


def property_names(trees):
    """The names of all properties."""
    return {method.name for kind in classes(trees) for method in methods(kind) if "property" in decorators(method)}


def method_names(trees):
    """The names of all methods that are no properties."""
    return {method.name for kind in classes(trees) for method in methods(kind) if not decorators(method)}


def class_values(trees):
    """The names of all class values."""
    return {
        target.id for kind in classes(trees) for node in kind.body if isinstance(node, ast.Assign) for target in node.targets
    }


def properties_without_setter(trees):
    """The names of the properties that have no setter in some class."""
    found = set()
    for kind in classes(trees):
        told = {text for method in methods(kind) for text in decorators(method)}
        names = {method.name for method in methods(kind) if "property" in decorators(method)}
        found |= {name for name in names if name + ".setter" not in told}
    return found


def assigned_attributes(trees):
    """The places where an attribute of some name is given a value, in whatever way."""
    found = []
    for file_name, node in nodes(trees, ast.Attribute, ast.Call):
        if isinstance(node, ast.Attribute) and not isinstance(node.ctx, ast.Load):
            found.append(place(file_name, node, node.attr))
        if called_name(node) == "setattr":
            found.append(place(file_name, node, ast.literal_eval(node.args[1])))
    return found


def assigned_without_setter(trees):
    """L5: where an attribute is assigned, each class that has a property of its name has the setter."""
    missing = properties_without_setter(trees)
    return [told for told in assigned_attributes(trees) if told[2] in missing]


def names_with_two_meanings(trees):
    """L5, L18: no name is a property and a method, a method and an attribute, a class value and one of these."""
    kinds = [property_names(trees), method_names(trees), class_values(trees)]
    kinds.append(own_attributes(trees) - kinds[0])
    found = []
    for file_name, node in nodes(trees, ast.FunctionDef):
        meanings = sum(node.name in names for names in kinds)
        if meanings > 1 or (node.name in kinds[0] and node.name in MEMBERS_OF_VALUES):
            found.append(place(file_name, node, node.name))
    return found


def attributes_that_nothing_has(trees):
    """L18, L25: what is read off an object is a method, a property, an attribute, a class value, or listed in L25."""
    known = VALUE_METHODS | own_attributes(trees) | property_names(trees) | method_names(trees) | class_values(trees)
    return [
        place(file_name, node, node.attr) for file_name, node in nodes(trees, ast.Attribute)
        if node.attr not in known and node.attr != "setter"
    ]


def assigned_to_no_local_name(trees):
    """L18: an attribute is assigned through a local name alone."""
    return [
        place(file_name, node) for file_name, node in nodes(trees, ast.Attribute)
        if not isinstance(node.ctx, ast.Load) and not isinstance(node.value, ast.Name)
    ]


def not_iterated_at_once(trees):
    """L23: a view, a zip and the like stands in the head of a loop, or in what iterates it on the spot."""
    found = []
    for file_name, tree in trees.items():
        around = parents(tree)
        for node in ast.walk(tree):
            view = called_method(node) in VIEWS and not node.args
            if not view and called_name(node) not in ITERATED_AT_ONCE | {"range"}:
                continue
            outer = around[node]
            looped = isinstance(outer, (ast.For, ast.comprehension)) and outer.iter is node
            taken = called_name(outer) in ITERATING and (outer.args[0] is node or called_name(outer) == "zip")
            joined = called_method(outer) == "join"
            if not looped and not taken and not joined:
                found.append(place(file_name, node))
    return found


def sets_out_of_place(trees):
    """L24: a set stands in len or sorted alone."""
    found = []
    for file_name, tree in trees.items():
        around = parents(tree)
        for node in ast.walk(tree):
            is_set = isinstance(node, (ast.Set, ast.SetComp)) or called_name(node) in ("set", "frozenset")
            if is_set and called_name(around[node]) not in ("len", "sorted"):
                found.append(place(file_name, node))
    return found


def compared_by_is(trees):
    """L20: is and is not stand beside None, True and False."""
    return [
        place(file_name, node) for file_name, node in nodes(trees, ast.Compare)
        if any(isinstance(sign, (ast.Is, ast.IsNot)) for sign in node.ops)
        and ast.unparse(node.comparators[0]) not in ("None", "True", "False")
    ]


def annotated(trees):
    """L21: there are no annotations."""
    found = [place(file_name, node) for file_name, node in nodes(trees, ast.AnnAssign)]
    found += [place(file_name, node, node.arg) for file_name, node in nodes(trees, ast.arg) if node.annotation]
    return found + [place(file_name, node, node.name) for file_name, node in nodes(trees, ast.FunctionDef) if node.returns]


def kinds_of_statements(trees):
    """L6: only these statements, and no generators; a call alone, or a docstring, stands as an expression."""
    found = []
    for file_name, node in nodes(trees, ast.stmt, ast.Yield, ast.YieldFrom, ast.GeneratorExp, ast.NamedExpr):
        if not isinstance(node, STATEMENTS):
            found.append(place(file_name, node))
        elif isinstance(node, ast.Expr) and not isinstance(node.value, (ast.Call, ast.Constant)):
            found.append(place(file_name, node))
    return found


def errors_of_python(trees):
    """L19: only own errors are caught; raise creates an error on the spot; TypeError and the like are not caught."""
    own = {kind.name for kind in classes(trees)}
    found = []
    for file_name, node in nodes(trees, ast.ExceptHandler, ast.Raise):
        if isinstance(node, ast.ExceptHandler):
            caught = node.type.elts if isinstance(node.type, ast.Tuple) else [node.type]
            wrong = any(not isinstance(kind, ast.Name) or kind.id not in own | {"KeyError"} for kind in caught)
        else:
            wrong = node.exc is not None and called_name(node.exc) not in own | {"TypeError", "AttributeError"}
        if wrong:
            found.append(place(file_name, node))
    return found


def sorted_without_key(trees):
    """L5: where a class has an order, sorted, min and max take strings and numbers; key=str is always right."""
    found = []
    for file_name, node in nodes(trees, ast.Call):
        if called_name(node) in ("sorted", "min", "max"):
            keys = [ast.unparse(keyword.value) for keyword in node.keywords if keyword.arg == "key"]
            if keys not in (["str"], ["len"], ["int"]):
                found.append(place(file_name, node))
    return found


def names_given_twice(trees):
    """L15: no parameter, local variable or nested function has the name of a class or an import of its file."""
    found = []
    for file_name, tree in trees.items():
        barred = {node.name for node in tree.body if isinstance(node, (ast.ClassDef, ast.FunctionDef))}
        for node in tree.body:
            if isinstance(node, ast.ImportFrom):
                barred |= {alias.asname or alias.name for alias in node.names}
            if isinstance(node, ast.Assign):
                barred |= {target.id for target in node.targets}
        for function in [node for node in ast.walk(tree) if isinstance(node, ast.FunctionDef)]:
            for node in ast.walk(function):
                name = node.arg if isinstance(node, ast.arg) else ""
                if isinstance(node, ast.Name) and isinstance(node.ctx, ast.Store):
                    name = node.id
                if name in barred or (name and name in dir(builtins)):
                    found.append(place(file_name, node, name))
    return found


def read_underscores(trees):
    """L12: the name _ is never read."""
    return [
        place(file_name, node) for file_name, node in nodes(trees, ast.Name)
        if node.id == "_" and isinstance(node.ctx, ast.Load)
    ]


def stars_in_calls(trees):
    """L7: behind a star in a call stand names alone; ** does not stand in one."""
    found = []
    for file_name, node in nodes(trees, ast.Call):
        stars = [part.value for part in node.args if isinstance(part, ast.Starred)]
        if any(not isinstance(part, ast.Name) for part in stars) or any(keyword.arg is None for keyword in node.keywords):
            found.append(place(file_name, node))
    return found


def changed_tables(trees):
    """L15: a list or dict of module level is only read: by an index, in a loop, behind in, by get, len or a copy."""
    tables = {
        node.targets[0].id for tree in trees.values() for node in tree.body
        if isinstance(node, ast.Assign) and isinstance(node.value, (ast.Dict, ast.List))
    }
    found = []
    for file_name, tree in trees.items():
        around = parents(tree)
        for node in ast.walk(tree):
            if not isinstance(node, ast.Name) or node.id not in tables or isinstance(node.ctx, ast.Store):
                continue
            outer = around[node]
            read = isinstance(outer, ast.Subscript) and outer.value is node and isinstance(outer.ctx, ast.Load)
            read = read or isinstance(outer, (ast.Compare, ast.comprehension))
            read = read or isinstance(outer, ast.For) and outer.iter is node
            read = read or called_name(outer) in ("len", "list", "dict", "sorted")
            read = read or isinstance(outer, ast.Attribute) and outer.attr in ("get", "items", "keys", "values")
            if not read:
                found.append(place(file_name, node))
    return found


def names_of_values(trees):
    """L26: no attribute has a name that values of Python have; a method only one of L25, or add."""
    found = [told for told in assigned_attributes(trees) if told[2] in MEMBERS_OF_VALUES]
    barred = MEMBERS_OF_VALUES - VALUE_METHODS - {"add", "discard"}
    for file_name, kind in nodes(trees, ast.ClassDef):
        for node in methods(kind):
            if node.name in barred and not node.name.startswith("__"):
                found.append(place(file_name, node, node.name))
    return found


def keywords_of_builtins(trees):
    """L22: sorted takes key and reverse, min and max key and default, sum and enumerate start, and no others any."""
    taken = {"sorted": {"key", "reverse"}, "min": {"key", "default"}, "max": {"key", "default"}, "sum": {"start"},
             "enumerate": {"start"}, "zip": {"strict"}}
    found = []
    for file_name, node in nodes(trees, ast.Call):
        name, told = called_name(node), {keyword.arg for keyword in node.keywords}
        of_value = called_method(node) in VALUE_METHODS and called_method(node) not in method_names(trees)
        if told and (of_value or (name in dir(builtins) and not told <= taken.get(name, set()))):
            found.append(place(file_name, node))
    return found


def literals_in_format_strings(trees):
    """L7, L27: in the braces of an f-string stands no string, and no format behind the expression."""
    found = []
    for file_name, node in nodes(trees, ast.FormattedValue):
        inside = [part for part in ast.walk(node.value) if isinstance(part, (ast.Constant, ast.JoinedStr))]
        if any(not isinstance(getattr(part, "value", ""), int) for part in inside) or node.format_spec:
            found.append((file_name, node.value.lineno, ast.unparse(node.value)))
    return found


def default_values(trees):
    """L4: default values are plain: integers, strings, True, False, None, and tuples of these."""
    found = []
    for file_name, node in nodes(trees, ast.FunctionDef, ast.Lambda):
        for value in [*node.args.defaults, *[value for value in node.args.kw_defaults if value]]:
            parts = value.elts if isinstance(value, ast.Tuple) else [value]
            if not all(isinstance(part, ast.Constant) for part in parts):
                found.append(place(file_name, value))
    return found


def static_names(trees):
    """L5: the name of a static method is no other method, property, attribute or class value, and none of a value; it
    is called off a class, an object or self, and not read without a call."""
    statics = {method.name for kind in classes(trees) for method in methods(kind) if "staticmethod" in decorators(method)}
    others = method_names(trees) | property_names(trees) | own_attributes(trees) | class_values(trees) | MEMBERS_OF_VALUES
    found = []
    for file_name, tree in trees.items():
        around = parents(tree)
        for node in ast.walk(tree):
            if isinstance(node, ast.FunctionDef) and node.name in statics & others:
                found.append(place(file_name, node, node.name))
            if isinstance(node, ast.Attribute) and node.attr in statics and called_method(around[node]) != node.attr:
                found.append(place(file_name, node))
    return found


def items_without_iteration(trees):
    """L5: a class with __getitem__ has an __iter__ that raises TypeError; nothing is called keys then."""
    found = []
    for file_name, kind in nodes(trees, ast.ClassDef):
        names = {method.name: method for method in methods(kind)}
        if "__getitem__" not in names:
            continue
        body = names["__iter__"].body if "__iter__" in names else []
        if len(body) != 1 or not isinstance(body[0], ast.Raise) or called_name(body[0].exc) != "TypeError":
            found.append(place(file_name, kind, kind.name))
        found += [(file_name, kind.lineno, "keys") for name in method_names(trees) | own_attributes(trees) if name == "keys"]
    return found


def parameters_of_operators(trees):
    """L5: operators take self, and at most one more plain parameter, __setitem__ two; no defaults, no decorators."""
    many = {"__init__": None, "__call__": None, "__exit__": None, "__setitem__": 3}
    many |= {name: 1 for name in ["__len__", "__invert__", "__iter__", "__enter__", "__repr__", "__str__", "__bool__", "__neg__"]}
    found = []
    for file_name, kind in nodes(trees, ast.ClassDef):
        for method in methods(kind):
            wanted = many.get(method.name, 2)
            told = method.args
            if not method.name.startswith("__") or wanted is None:
                continue
            if len(told.args) != wanted or told.vararg or told.kwarg or told.kwonlyargs or told.defaults or decorators(method):
                found.append(place(file_name, method, method.name))
    return found


def orders_that_meet(trees):
    """L5, L2: no class has both directions of an order; beside a class with an order nothing comes from heapq."""
    found = []
    ordered = False
    for file_name, kind in nodes(trees, ast.ClassDef):
        names = {method.name for method in methods(kind)}
        ordered = ordered or bool(names & {"__lt__", "__le__", "__gt__", "__ge__"})
        if {"__lt__", "__gt__"} <= names or {"__le__", "__ge__"} <= names:
            found.append(place(file_name, kind, kind.name))
    for file_name, node in nodes(trees, ast.ImportFrom):
        if ordered and node.module == "heapq":
            found.append(place(file_name, node))
    return found
