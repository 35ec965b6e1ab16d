"""Those rules of the form in LANGUAGE.md that a look at the code can tell: sizes, signs, imports, words, kinds of code.

It is a net with wide meshes: what passes here may still break a rule.
"""

import ast
import builtins
import pathlib
import re
import unittest

from tests import form_effects, form_rules

PACKAGE = pathlib.Path(__file__).resolve().parent.parent / "hookvows"
FILES = sorted(PACKAGE.rglob("*.py"))

LIBRARY = {
    "heapq": {"heappush", "heappop", "heapify", "heapreplace", "heappushpop"},
    "math": {"gcd", "lcm", "isqrt", "comb", "perm", "factorial"},
    "itertools": {
        "product", "combinations", "permutations", "chain", "accumulate", "pairwise", "islice", "zip_longest",
    },
    "collections": {"defaultdict", "deque"},
}

BUILTINS = set(
    "len range enumerate zip min max sum abs sorted reversed int str bool list tuple dict set isinstance ord repr any"
    " all divmod pow getattr hasattr setattr iter next map type super Exception ValueError TypeError KeyError"
    " IndexError LookupError ZeroDivisionError ArithmeticError OverflowError RuntimeError NotImplementedError"
    " AttributeError StopIteration NotImplemented property staticmethod classmethod".split()
)

DOUBLE_UNDERSCORE = set(
    "init eq repr str len enter exit call iter lt le gt ge ne add sub mul floordiv mod pow and or xor lshift rshift"
    " radd rsub rmul rfloordiv rmod rand ror rxor rlshift rrshift iadd isub imul ifloordiv imod ipow iand ior ixor"
    " ilshift irshift neg pos invert abs bool contains getitem setitem".split()
)

BARRED_NAMES = set(
    "register mro elements open input law version_info with_traceback add_note attrgetter breakpoint builtins compile"
    " copyright credits delattr dir eval exec exit gc globals help id importlib license locals methodcaller os quit"
    " vars sys _cold _tuplegetter _outside _record _written_out _member_names".split()
)

BARRED_WORDS = set(
    "typing typing_extensions enum Enum IntEnum StrEnum Flag IntFlag Generic Protocol ABC ABCMeta namedtuple NamedTuple"
    " TypedDict TYPE_CHECKING abstractmethod".split()
)

# Objects with == or len of their own: these take lists and no generator expressions.
TAKE_LISTS = {"any", "all", "min", "max", "sum", "sorted"}

# The rules that take the whole package to be told. Each has a test of its own in tests/test_form_rules.py.
RULES = [
    form_rules.assigned_without_setter, form_rules.names_with_two_meanings, form_rules.attributes_that_nothing_has,
    form_rules.assigned_to_no_local_name, form_rules.not_iterated_at_once, form_rules.sets_out_of_place,
    form_rules.compared_by_is, form_rules.annotated, form_rules.kinds_of_statements, form_rules.errors_of_python,
    form_rules.sorted_without_key, form_rules.names_given_twice, form_rules.read_underscores, form_rules.stars_in_calls,
    form_rules.changed_tables, form_rules.names_of_values, form_rules.keywords_of_builtins,
    form_rules.static_names, form_rules.items_without_iteration, form_rules.parameters_of_operators,
    form_rules.orders_that_meet, form_rules.literals_in_format_strings, form_rules.default_values, form_effects.operators_that_change,
    form_effects.operators_that_run_setters,
    form_effects.lengths_that_are_none, form_effects.special_methods_without_return, form_effects.exits_that_do_more,
    form_effects.wrong_arguments, form_effects.changed_in_their_own_loop,
]

BARRED_CODE = (ast.AsyncFunctionDef, ast.AsyncFor, ast.AsyncWith, ast.Await, ast.Div, ast.MatMult, ast.Import)


def plain_value(node, names):
    """Whether the code is a plain value of module level: literals, containers, names defined above."""
    if isinstance(node, ast.Constant):
        return True
    if isinstance(node, (ast.List, ast.Tuple)):
        return all(plain_value(part, names) for part in node.elts)
    if isinstance(node, ast.Dict):
        return all(plain_value(part, names) for part in [*node.keys, *node.values])
    if isinstance(node, ast.BinOp):
        return plain_value(node.left, names) and plain_value(node.right, names)
    return isinstance(node, ast.Name) and node.id in names


def bound_names(tree):
    """All names that the code gives to something: functions, classes, parameters, variables, attributes."""
    found = []
    for node in ast.walk(tree):
        if isinstance(node, (ast.FunctionDef, ast.ClassDef)):
            found.append(node.name)
        elif isinstance(node, ast.arg):
            found.append(node.arg)
        elif isinstance(node, ast.keyword) and node.arg:
            found.append(node.arg)
        elif isinstance(node, ast.Name) and isinstance(node.ctx, ast.Store):
            found.append(node.id)
        elif isinstance(node, ast.Attribute):
            found.append(node.attr)
        elif isinstance(node, ast.alias):
            found.append(node.name)
    return found


class TestForm(unittest.TestCase):
    def each(self):
        self.assertGreater(len(FILES), 0)
        for path in FILES:
            text = path.read_text(encoding="utf-8")
            yield path, text, ast.parse(text)

    def test_only_plain_files_of_python(self):
        for path in PACKAGE.rglob("*"):
            if "__pycache__" not in path.parts and path.is_file():
                self.assertRegex(path.name, r"^[a-z_][a-z0-9_]*\.py$")
                self.assertNotRegex(path.name, r"^(test|law_|site|conftest)")
        for folder in {path.parent for path in FILES}:
            self.assertTrue((folder / "__init__.py").exists())

    def test_sizes_and_signs(self):
        for path, text, tree in self.each():
            self.assertLessEqual(len(text.splitlines()), 399, path)
            self.assertEqual([sign for sign in set(text) if not (" " <= sign <= "~" or sign == "\n")], [], path)
            self.assertEqual([line for line in text.splitlines() if len(line) > 120], [], path)
            for node in ast.walk(tree):
                if isinstance(node, ast.FunctionDef):
                    self.assertLessEqual(node.end_lineno - node.lineno + 1, 40, (path, node.name))

    def test_imports_name_what_the_file_itself_defines(self):
        for path, _, tree in self.each():
            for node in ast.walk(tree):
                if not isinstance(node, ast.ImportFrom):
                    continue
                self.assertEqual(node.level, 0, path)
                self.assertIn(node, tree.body, path)
                names = [alias.name for alias in node.names]
                if node.module in LIBRARY:
                    self.assertEqual(set(names) - LIBRARY[node.module], set(), path)
                    continue
                self.assertTrue(node.module.startswith("hookvows."), path)
                source = ast.parse((PACKAGE.parent / (node.module.replace(".", "/") + ".py")).read_text())
                own = {part.name for part in source.body if isinstance(part, (ast.FunctionDef, ast.ClassDef))}
                own |= {part.targets[0].id for part in source.body if isinstance(part, ast.Assign)}
                self.assertEqual(set(names) - own, set(), path)

    def test_files_import_from_earlier_files_alone(self):
        imports = {}
        for path, _, tree in self.each():
            found = [node.module for node in tree.body if isinstance(node, ast.ImportFrom)]
            imports["hookvows." + path.stem] = [name for name in found if name not in LIBRARY]
        done = []
        while len(done) < len(imports):
            ready = [name for name in imports if name not in done and set(imports[name]) <= set(done)]
            self.assertNotEqual(ready, [], "files that import from each other")
            done += ready

    def test_each_import_is_used(self):
        for path, _, tree in self.each():
            used = {node.id for node in ast.walk(tree) if isinstance(node, ast.Name)}
            for node in tree.body:
                if isinstance(node, ast.ImportFrom):
                    self.assertEqual({alias.asname or alias.name for alias in node.names} - used, set(), path)

    def test_module_level(self):
        for path, _, tree in self.each():
            names = []
            for at, node in enumerate(tree.body):
                if isinstance(node, (ast.FunctionDef, ast.ClassDef)):
                    names.append(node.name)
                elif isinstance(node, ast.Assign):
                    self.assertEqual(len(node.targets), 1, path)
                    self.assertTrue(plain_value(node.value, names), (path, node.lineno))
                    names.append(node.targets[0].id)
                elif isinstance(node, ast.Expr):
                    self.assertEqual((at, isinstance(node.value, ast.Constant)), (0, True), path)
                else:
                    self.assertIsInstance(node, ast.ImportFrom, path)
            self.assertEqual(len(names), len(set(names)), path)

    def test_kinds_of_code(self):
        for path, _, tree in self.each():
            for node in ast.walk(tree):
                place = (path, getattr(node, "lineno", None))
                self.assertNotIsInstance(node, BARRED_CODE, place)
                if isinstance(node, ast.Constant):
                    self.assertNotIsInstance(node.value, (float, complex), place)
                    if isinstance(node.value, str):
                        self.assertNotIn("%", node.value, place)
                if isinstance(node, ast.ExceptHandler):
                    self.assertIsNotNone(node.type, place)
                if isinstance(node, ast.Call) and isinstance(node.func, ast.Name) and node.func.id in TAKE_LISTS:
                    self.assertEqual([part for part in node.args if isinstance(part, ast.GeneratorExp)], [], place)
                if isinstance(node, ast.Attribute):
                    self.assertNotEqual(node.attr, "sort", place)
                    self.assertNotRegex(node.attr, r"^__(?!(init|class|name)__$)", place)
                if isinstance(node, (ast.FunctionDef, ast.ClassDef)):
                    told = [ast.unparse(part) for part in node.decorator_list]
                    for text in told:
                        self.assertRegex(text, r"^(property|staticmethod|classmethod|[a-z_]+\.setter)$", place)

    def test_names(self):
        for path, _, tree in self.each():
            names = bound_names(tree)
            for name in names:
                self.assertNotIn(name, BARRED_NAMES, path)
                self.assertRegex(name, r"^(_?[A-Za-z][A-Za-z0-9_]*|_|__[a-z]+__)$", path)
                if name.startswith("__"):
                    self.assertIn(name.strip("_"), DOUBLE_UNDERSCORE, path)
            nodes = [node for node in ast.walk(tree) if isinstance(node, ast.Name)]
            of_python = {node.id for node in nodes} & set(dir(builtins))
            self.assertEqual(of_python - BUILTINS, set(), path)
            given = {node.id for node in nodes if isinstance(node.ctx, ast.Store)}
            given |= {node.arg for node in ast.walk(tree) if isinstance(node, ast.arg)}
            self.assertEqual(given & set(dir(builtins)), set(), path)

    def test_words(self):
        for path, text, tree in self.each():
            documented = [tree, *[node for node in ast.walk(tree) if isinstance(node, (ast.FunctionDef, ast.ClassDef))]]
            strings = [node.value for node in ast.walk(tree) if isinstance(node, ast.Constant)]
            docs = [ast.get_docstring(node, clean=False) for node in documented]
            told = [value for value in strings if isinstance(value, str) and value not in docs]
            words = set(re.findall(r"\w+", " ".join([*told, *bound_names(tree)])))
            self.assertEqual(words & BARRED_WORDS, set(), path)
            self.assertNotRegex(text, r"_wall|_WallAttr", path)

    def test_functions_and_classes_tell_what_they_are_for(self):
        for path, _, tree in self.each():
            self.assertTrue(ast.get_docstring(tree), path)
            for node in ast.walk(tree):
                private = isinstance(node, ast.FunctionDef) and node.name.startswith("_")
                if isinstance(node, (ast.FunctionDef, ast.ClassDef)) and not private:
                    self.assertTrue(ast.get_docstring(node), (path, node.name))

    def test_rules_of_the_whole_package(self):
        trees = {path.name: tree for path, _, tree in self.each()}
        for rule in RULES:
            self.assertEqual(rule(trees), [], rule.__doc__)
