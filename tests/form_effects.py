"""Rules of the form about what changes what: operators and properties, len and exit, arguments of calls."""

import ast

from tests.form_rules import CHANGING, OPERATORS, called_method, called_name, classes, decorators, methods, nodes, place

FRESH_CALLS = {"list", "dict", "sorted", "set"}


def functions_by_name(trees):
    """All functions and methods of each name; for a class its __init__."""
    found = {}
    for _, node in nodes(trees, ast.FunctionDef):
        if not any(text.endswith(".setter") for text in decorators(node)):
            found.setdefault(node.name, []).append(node)
    for kind in classes(trees):
        found.setdefault(kind.name, []).extend([node for node in methods(kind) if node.name == "__init__"])
    return found


def begun_by_python(trees):
    """The operators and properties of all classes."""
    return [node for kind in classes(trees) for node in methods(kind)
            if node.name in OPERATORS or "property" in decorators(node)]


def calls_of_functions(trees):
    """For each function those that it may call, found by their names alone; a property is called by reading it."""
    by_name = functions_by_name(trees)
    property_nodes = {node.name: node for node in begun_by_python(trees) if "property" in decorators(node)}
    found = {}
    for _, function in nodes(trees, ast.FunctionDef):
        found[function] = []
        for node in ast.walk(function):
            found[function] += by_name.get(called_name(node) or called_method(node), [])
            if isinstance(node, ast.Attribute) and node.attr in property_nodes:
                found[function].append(property_nodes[node.attr])
    return found


def run_from(calls, begin):
    """All functions that these functions may run; themselves included."""
    found, waiting = {}, list(begin)
    while waiting:
        function = waiting.pop()
        if function not in found:
            found[function] = True
            waiting += calls[function]
    return list(found)


def run_by_operators(trees):
    """All functions that an operator or a property may run."""
    return run_from(calls_of_functions(trees), begun_by_python(trees))


def given_attributes(function):
    """The names of the attributes that a function assigns."""
    found = set()
    for node in ast.walk(function):
        if isinstance(node, ast.Attribute) and not isinstance(node.ctx, ast.Load):
            found.add(node.attr)
        if called_name(node) == "setattr":
            found.add(ast.literal_eval(node.args[1]))
    return found


def operators_that_run_setters(trees):
    """L5: what an operator or a property runs, the errors that it raises included, assigns no attribute whose name is
    that of a property with a setter in some class: each such assignment may be a call of this setter."""
    with_setter = {
        method.name for kind in classes(trees) for method in methods(kind) if method.name + ".setter" in decorators(method)
    }
    calls = calls_of_functions(trees)
    breaches = {function for function in calls if given_attributes(function) & with_setter}
    operators = begun_by_python(trees)
    return [
        place(file_name, node, node.name) for file_name, node in nodes(trees, ast.FunctionDef)
        if node in operators and not breaches.isdisjoint(run_from(calls, [node]))
    ]


def is_fresh(value):
    """Whether the code makes a list or a dict of its own."""
    if isinstance(value, (ast.List, ast.ListComp, ast.Dict, ast.DictComp)) or called_name(value) in FRESH_CALLS:
        return True
    return isinstance(value, ast.BinOp) and is_fresh(value.left) and is_fresh(value.right)


def fresh_names(function):
    """The local variables that are only ever assigned lists and dicts that the function makes itself."""
    given, parameters = {}, {node.arg for node in ast.walk(function) if isinstance(node, ast.arg)}
    for node in ast.walk(function):
        if isinstance(node, ast.Assign) and isinstance(node.targets[0], ast.Name):
            given.setdefault(node.targets[0].id, []).append(is_fresh(node.value))
    return {name for name, told in given.items() if all(told)} - parameters


def changes_of(function):
    """The nodes with which a function changes what it did not make itself, or calls what it was passed or holds."""
    own = fresh_names(function)
    parameters = {node.arg for node in ast.walk(function) if isinstance(node, ast.arg)}
    local = {node.id for node in ast.walk(function) if isinstance(node, ast.Name) and isinstance(node.ctx, ast.Store)}
    found = []
    for node in ast.walk(function):
        stored = not isinstance(getattr(node, "ctx", ast.Load()), ast.Load)
        if isinstance(node, ast.Attribute) and stored:
            if function.name != "__init__" or ast.unparse(node.value) != "self":
                found.append(node)
        elif isinstance(node, ast.Subscript) and stored:
            if not (isinstance(node.value, ast.Name) and node.value.id in own):
                found.append(node)
        elif isinstance(node, ast.AugAssign):
            if not (isinstance(node.target, ast.Name) and isinstance(node.value, ast.Constant)):
                found.append(node)
        elif called_method(node) in CHANGING:
            if not (isinstance(node.func.value, ast.Name) and node.func.value.id in own):
                found.append(node)
        elif called_name(node) in parameters | local:
            found.append(node)
        elif isinstance(node, ast.Call) and not isinstance(node.func, (ast.Name, ast.Attribute)):
            found.append(node)
    return found


def operators_that_change(trees):
    """L5: operators and properties, and all that they run, change nothing and call nothing that they are passed."""
    files = {node: file_name for file_name, node in nodes(trees, ast.FunctionDef)}
    return [
        place(files[function], node) for function in run_by_operators(trees) for node in changes_of(function)
    ]


def lengths_that_are_none(trees):
    """L28: each return of __len__ is len(..) or a literal number; __init__ returns nothing."""
    found = []
    for file_name, function in nodes(trees, ast.FunctionDef):
        for node in ast.walk(function):
            if not isinstance(node, ast.Return):
                continue
            wrong = function.name == "__len__" and called_name(node.value) != "len" and not isinstance(node.value, ast.Constant)
            if wrong or function.name == "__init__":
                found.append(place(file_name, node))
    return found


def special_methods_without_return(trees):
    """L28: __eq__, __len__, __repr__ and __str__ end in a return."""
    return [
        place(file_name, node, node.name) for file_name, node in nodes(trees, ast.FunctionDef)
        if node.name in OPERATORS and not isinstance(node.body[-1], (ast.Return, ast.Raise))
    ]


def rows_that_do_more(file_name, function):
    """The rows of a function that do more than to assign attributes, and one name off self."""
    found, taken = [], 0
    for node in function.body:
        wrong = not isinstance(node, ast.Assign) or len(node.targets) > 1
        if not wrong:
            target, value = node.targets[0], node.value
            # An attribute is one off a name: more is never needed.
            plain = isinstance(value, (ast.Name, ast.Constant))
            plain = plain or isinstance(value, ast.Attribute) and isinstance(value.value, ast.Name)
            if isinstance(target, ast.Name):
                taken += 1
                wrong = taken > 1 or not ast.unparse(value).startswith("self.") or not plain
            else:
                wrong = not isinstance(target, ast.Attribute) or not isinstance(target.value, ast.Name) or not plain
        if wrong:
            found.append(place(file_name, node))
    return found


def exits_that_do_more(trees):
    """L6: __exit__ assigns attributes and one name off self, and does no more; it may call a method that does likewise."""
    found = []
    for file_name, kind in nodes(trees, ast.ClassDef):
        own = {method.name: method for method in methods(kind)}
        if "__exit__" not in own:
            continue
        function = own["__exit__"]
        called = {f"self.{name}()": method for name, method in own.items() if len(method.args.args) == 1}
        told = {ast.unparse(node): node for node in function.body if isinstance(node, ast.Expr)}
        found += [row for row in rows_that_do_more(file_name, function) if row[2] not in called]
        for text in told:
            if text in called:
                found += rows_that_do_more(file_name, called[text])
        names = [argument.arg for argument in function.args.args]
        if len(names) != 4 or {node.id for node in ast.walk(function) if isinstance(node, ast.Name)} & set(names[2:]):
            found.append(place(file_name, function, function.name))
    return found


def room_for(function, skip):
    """The least and the most arguments that a function takes; None for no most."""
    arguments = function.args
    many = len(arguments.posonlyargs) + len(arguments.args) - skip
    return many - len(arguments.defaults), None if arguments.vararg else many


def wrong_arguments(trees):
    """L22: calls of own functions, classes and methods pass as many arguments as these take."""
    plain, of_classes, of_methods = {}, {}, {}
    for tree in trees.values():
        for node in tree.body:
            if isinstance(node, ast.FunctionDef):
                plain.setdefault(node.name, []).append(room_for(node, 0))
    for kind in classes(trees):
        made = [room_for(node, 1) for node in methods(kind) if node.name == "__init__"]
        of_classes[kind.name] = made
        for node in methods(kind):
            if not decorators(node):
                of_methods.setdefault(node.name, []).append(room_for(node, 1))
    found = []
    for file_name, node in nodes(trees, ast.Call):
        rooms = plain.get(called_name(node)) or of_classes.get(called_name(node)) or of_methods.get(called_method(node), [])
        starred = any(isinstance(part, ast.Starred) for part in node.args)
        many = len(node.args) + len(node.keywords)
        if rooms and not starred and not any(least <= many and (most is None or many <= most) for least, most in rooms):
            found.append(place(file_name, node))
    return found


def changed_in_their_own_loop(trees):
    """L23: what a loop goes over is not changed in it, by its own name or the attribute's."""
    found = []
    for file_name, loop in nodes(trees, ast.For):
        gone_over = loop.iter
        while isinstance(gone_over, ast.Call) and (called_name(gone_over) in ("enumerate", "zip", "reversed") or
                                                   called_method(gone_over) in ("items", "keys", "values")):
            gone_over = gone_over.args[0] if called_name(gone_over) else gone_over.func.value
        told = ast.unparse(gone_over)
        for node in [node for row in loop.body for node in ast.walk(row)]:
            changing = called_method(node) in CHANGING and ast.unparse(node.func.value) == told
            stored = isinstance(node, ast.Subscript) and not isinstance(node.ctx, ast.Load) and ast.unparse(node.value) == told
            named = isinstance(node, (ast.Name, ast.Attribute)) and not isinstance(node.ctx, ast.Load)
            if changing or stored or (named and ast.unparse(node) == told):
                found.append(place(file_name, node))
    return found
