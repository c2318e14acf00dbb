"""The plainer rules on the form of the package's files."""

import ast
import builtins
import re
import unittest
from pathlib import Path

PACKAGE = Path(__file__).resolve().parent.parent / "canpath"
FILES = sorted(PACKAGE.glob("*.py"))
TREES = {path.name: ast.parse(path.read_text()) for path in FILES}
BARRED = (
    "type", "typing", "typing_extensions", "enum", "Enum", "IntEnum", "StrEnum", "Flag", "IntFlag", "Generic",
    "Protocol", "ABC", "ABCMeta", "namedtuple", "NamedTuple", "TypedDict", "TYPE_CHECKING", "abstractmethod",
)
BUILTINS = set("""len range enumerate zip min max sum abs sorted reversed int str bool bytes list tuple dict set
frozenset isinstance ord repr any all divmod Exception ValueError TypeError KeyError IndexError LookupError ZeroDivisionError
NotImplemented classmethod""".split())
METHODS = set("""append clear copy count endswith extend find get index insert isalnum isalpha isdigit islower isspace
isupper items join keys ljust lower lstrip partition pop remove replace reverse rfind rjust rpartition rsplit rstrip
setdefault split splitlines startswith strip update upper values zfill bit_length isascii removeprefix""".split())
SPECIAL = set("""__init__ __eq__ __str__ __len__ __call__ __iter__ __add__ __sub__ __contains__ __getitem__""".split())


def nodes(kind):
    """All nodes of a kind, each with its file."""
    return [(name, node) for name, tree in TREES.items() for node in ast.walk(tree) if isinstance(node, kind)]


def classes():
    return [node for _, node in nodes(ast.ClassDef)]


def own_methods():
    return {item.name for made in classes() for item in made.body if isinstance(item, ast.FunctionDef)}


def own_attributes():
    """The names of all attributes that are assigned."""
    return {node.attr for _, node in nodes(ast.Attribute) if isinstance(node.ctx, ast.Store)}


def class_values():
    return {target.id for made in classes() for item in made.body if isinstance(item, ast.Assign)
            for target in item.targets}


def own_errors():
    return {node.name for node in TREES["errors.py"].body if isinstance(node, ast.ClassDef)}


def bound_names(tree):
    """All names that a file gives a meaning: functions, classes, parameters and variables."""
    for node in ast.walk(tree):
        if isinstance(node, (ast.FunctionDef, ast.ClassDef)):
            yield node.name
        elif isinstance(node, ast.arg):
            yield node.arg
        elif isinstance(node, ast.Name) and isinstance(node.ctx, ast.Store):
            yield node.id


class Files(unittest.TestCase):
    def test_only_python_files(self):
        self.assertIn(PACKAGE / "__init__.py", FILES)
        others = [path.name for path in PACKAGE.iterdir() if path not in FILES and path.name != "__pycache__"]
        self.assertEqual(others, [])

    def test_sizes_and_characters(self):
        for path in FILES:
            text = path.read_bytes().decode("ascii")
            rows = text.split("\n")
            with self.subTest(file=path.name):
                self.assertLess(len(rows), 400)
                self.assertLessEqual(max(len(row) for row in rows), 120)
                self.assertTrue(all(char == "\n" or " " <= char <= "~" for char in text))

    def test_functions_are_short(self):
        for name, node in nodes(ast.FunctionDef):
            with self.subTest(file=name, function=node.name):
                self.assertLessEqual(node.end_lineno - node.lineno + 1, 40)

    def test_barred_words(self):
        for path in FILES:
            with self.subTest(file=path.name):
                self.assertEqual(re.findall(r"\b(?:" + "|".join(BARRED) + r")\b", path.read_text()), [])
                self.assertEqual(re.findall(r"dataclass|overload|contextmanager", path.read_text()), [])

    def test_module_level(self):
        for name, tree in TREES.items():
            for node in tree.body:
                docstring = isinstance(node, ast.Expr) and isinstance(node.value, ast.Constant)
                right = isinstance(node, (ast.ImportFrom, ast.FunctionDef, ast.ClassDef, ast.Assign)) or docstring
                self.assertTrue(right, (name, node.lineno))


class Imports(unittest.TestCase):
    def test_imports_name_the_very_file(self):
        for name, node in nodes((ast.Import, ast.ImportFrom)):
            with self.subTest(file=name, line=node.lineno):
                self.assertIsInstance(node, ast.ImportFrom)
                self.assertEqual(node.level, 0)
                self.assertTrue(node.module.startswith("canpath."))
                body = TREES[node.module.removeprefix("canpath.") + ".py"].body
                defined = {item.name for item in body if isinstance(item, (ast.FunctionDef, ast.ClassDef))}
                defined |= {item.targets[0].id for item in body if isinstance(item, ast.Assign)}
                self.assertLessEqual({one.name for one in node.names}, defined)

    def test_each_import_is_used(self):
        for name, node in nodes(ast.ImportFrom):
            used = {one.id for one in ast.walk(TREES[name]) if isinstance(one, ast.Name)}
            self.assertLessEqual({one.name for one in node.names}, used, name)

    def test_no_two_files_import_from_each_other(self):
        needs = {name: set() for name in TREES}
        for name, node in nodes(ast.ImportFrom):
            needs[name].add(node.module.removeprefix("canpath.") + ".py")
        while needs:
            free = [name for name in needs if not needs[name]]
            self.assertTrue(free, needs)
            needs = {name: rest - set(free) for name, rest in needs.items() if name not in free}

    def test_no_local_name_is_an_import(self):
        for name, node in nodes(ast.ImportFrom):
            locals_of_file = {one.arg for one in ast.walk(TREES[name]) if isinstance(one, ast.arg)}
            locals_of_file |= {one.id for one in ast.walk(TREES[name])
                               if isinstance(one, ast.Name) and isinstance(one.ctx, ast.Store)}
            self.assertEqual({one.name for one in node.names} & locals_of_file, set(), name)


class Names(unittest.TestCase):
    def test_plain_names(self):
        for name, tree in TREES.items():
            for bound in bound_names(tree):
                with self.subTest(file=name, name=bound):
                    # Python's modules have some of the double-underscore names themselves.
                    right = not bound.startswith("_") and not hasattr(builtins, bound)
                    self.assertTrue(right or bound in SPECIAL)

    def test_builtins(self):
        for name, tree in TREES.items():
            known = set(bound_names(tree)) | BUILTINS
            known |= {one.name for node in ast.walk(tree) if isinstance(node, ast.ImportFrom) for one in node.names}
            known |= {node.name for node in ast.walk(tree) if isinstance(node, ast.ExceptHandler)}
            for node in ast.walk(tree):
                if isinstance(node, ast.Name):
                    self.assertIn(node.id, known, (name, node.lineno))

    def test_methods_and_attributes(self):
        self.assertEqual(own_methods() & own_attributes(), set())
        self.assertEqual(class_values() & (own_methods() | own_attributes()), set())
        self.assertEqual(own_attributes() & set(dir(str) + dir(list) + dir(dict) + dir(int)), {"index"})
        self.assertEqual({name for name in own_methods() if name not in SPECIAL}
                         & set(dir(str) + dir(list) + dir(dict) + dir(int) + dir(set) + dir(bytes)), set())
        known = own_methods() | own_attributes() | class_values() | METHODS
        for name, node in nodes(ast.Attribute):
            self.assertIn(node.attr, known, (name, node.lineno))

    def test_generators_have_names_of_their_own(self):
        functions = [node for _, node in nodes(ast.FunctionDef)]
        makers = [node.name for node in functions
                  if any(isinstance(one, (ast.Yield, ast.YieldFrom)) for one in ast.walk(node))]
        self.assertEqual(sorted(makers), ["each_plan", "walk"])
        for name in makers:
            self.assertEqual([node.name for node in functions].count(name), 1)


class Statements(unittest.TestCase):
    def test_is(self):
        for name, node in nodes(ast.Compare):
            for sign, right in zip(node.ops, node.comparators):
                if isinstance(sign, (ast.Is, ast.IsNot)):
                    self.assertTrue(isinstance(right, ast.Constant) and right.value in (None, True, False), name)

    def test_no_floats_and_no_division(self):
        for name, node in nodes((ast.Div, ast.Constant, ast.Global, ast.AsyncFunctionDef, ast.Lambda, ast.Match)):
            self.assertIsInstance(node, ast.Constant, name)
            self.assertNotIsInstance(node.value, (float, complex))
            if isinstance(node.value, str):
                self.assertNotIn("%", node.value)

    def test_caught_and_raised_errors(self):
        for name, node in nodes(ast.ExceptHandler):
            self.assertIn(node.type.id, own_errors(), (name, node.lineno))
        for name, node in nodes(ast.Raise):
            self.assertIn(node.exc.func.id, own_errors() | {"TypeError"}, (name, node.lineno))

    def test_finally_only_assigns(self):
        for name, node in nodes(ast.Try):
            for one in [inner for row in node.finalbody for inner in ast.walk(row)]:
                right = not isinstance(one, (ast.Call, ast.Return, ast.Raise, ast.Subscript, ast.BinOp, ast.For))
                self.assertTrue(right, (name, node.lineno))
                if isinstance(one, ast.Compare):
                    self.assertIsInstance(one.ops[0], (ast.Is, ast.IsNot))

    def test_showing_and_comparing_assign_nothing(self):
        for made in classes():
            for method in made.body:
                if isinstance(method, ast.FunctionDef) and method.name in ("__eq__", "__str__", "__len__"):
                    with self.subTest(made=made.name, method=method.name):
                        self.assertEqual(len(method.body), 1)
                        self.assertIsInstance(method.body[0], ast.Return)

    def test_no_generator_expressions_and_no_sorting_in_place(self):
        self.assertEqual(nodes(ast.GeneratorExp), [])
        self.assertEqual([node for _, node in nodes(ast.Attribute) if node.attr == "sort"], [])

    def test_no_annotations(self):
        self.assertEqual(nodes(ast.AnnAssign), [])
        for name, node in nodes(ast.FunctionDef):
            self.assertIsNone(node.returns, name)
            self.assertTrue(all(one.annotation is None for one in ast.walk(node) if isinstance(one, ast.arg)), name)

    def test_decorators_and_methods(self):
        for made in classes():
            self.assertEqual(made.decorator_list, [])
            names = [item.name for item in made.body if isinstance(item, ast.FunctionDef)]
            self.assertEqual(len(names), len(set(names)), made.name)
        for name, node in nodes(ast.FunctionDef):
            self.assertIn([one.id for one in node.decorator_list], ([], ["classmethod"]), name)


if __name__ == "__main__":
    unittest.main()
