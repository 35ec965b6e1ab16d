"""Rules of the form that take the whole package to be told: each function returns the places of the breaches.

A package is a dict from the names of its files to their trees.
"""

import ast


def classes(trees):
    """All classes of the package."""
    return [node for tree in trees.values() for node in ast.walk(tree) if isinstance(node, ast.ClassDef)]


def methods(kind):
    """The functions that stand in the body of a class."""
    return [node for node in kind.body if isinstance(node, ast.FunctionDef)]


def decorators(function):
    """The decorators of a function, as they are written."""
    return [ast.unparse(node) for node in function.decorator_list]


def properties_without_setter(trees):
    """The names of the properties that have no setter in some class."""
    found = set()
    for kind in classes(trees):
        told = {text for method in methods(kind) for text in decorators(method)}
        names = {method.name for method in methods(kind) if "property" in decorators(method)}
        found |= {name for name in names if name + ".setter" not in told}
    return found


def assigned_attributes(trees):
    """The places where an attribute of some name is given a value, in whatever way: (name of the file, row, name)."""
    found = []
    for file_name, tree in trees.items():
        for node in ast.walk(tree):
            if isinstance(node, ast.Attribute) and not isinstance(node.ctx, ast.Load):
                found.append((file_name, node.lineno, node.attr))
            if isinstance(node, ast.Call) and ast.unparse(node.func) == "setattr":
                found.append((file_name, node.lineno, ast.literal_eval(node.args[1])))
    return found


def assigned_without_setter(trees):
    """L5: where an attribute is assigned, each class that has a property of its name has the setter."""
    missing = properties_without_setter(trees)
    return [place for place in assigned_attributes(trees) if place[2] in missing]
