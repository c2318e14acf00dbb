"""The plainest rules on the form of the package's files."""

import ast
import re
import unittest
from pathlib import Path

PACKAGE = Path(__file__).resolve().parent.parent / "canpath"
FILES = sorted(PACKAGE.glob("*.py"))
BARRED = ("type", "typing", "enum", "Enum", "Flag", "Generic", "Protocol", "ABC", "namedtuple", "NamedTuple")


def imports_of(tree):
    return [node for node in ast.walk(tree) if isinstance(node, (ast.Import, ast.ImportFrom))]


class Form(unittest.TestCase):
    def test_only_python_files(self):
        self.assertIn(PACKAGE / "__init__.py", FILES)
        others = [path.name for path in PACKAGE.iterdir() if path not in FILES and path.name != "__pycache__"]
        self.assertEqual(others, [])

    def test_sizes_and_characters(self):
        for path in FILES:
            text = path.read_bytes().decode("ascii")
            rows = text.split("\n")
            with self.subTest(file=path.name):
                self.assertLess(len(rows), 400)
                self.assertLessEqual(max(len(row) for row in rows), 120)
                self.assertTrue(all(char == "\n" or " " <= char <= "~" for char in text))

    def test_functions_are_short(self):
        for path in FILES:
            for node in ast.walk(ast.parse(path.read_text())):
                if isinstance(node, ast.FunctionDef):
                    with self.subTest(file=path.name, function=node.name):
                        self.assertLessEqual(node.end_lineno - node.lineno + 1, 40)

    def test_imports_name_the_package(self):
        for path in FILES:
            for node in imports_of(ast.parse(path.read_text())):
                with self.subTest(file=path.name, line=node.lineno):
                    self.assertIsInstance(node, ast.ImportFrom)
                    self.assertEqual(node.level, 0)
                    self.assertTrue(node.module.startswith("canpath."))

    def test_barred_words(self):
        for path in FILES:
            with self.subTest(file=path.name):
                self.assertEqual(re.findall(r"\b(?:" + "|".join(BARRED) + r")\b", path.read_text()), [])


if __name__ == "__main__":
    unittest.main()
