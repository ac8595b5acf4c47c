"""The plainest rules of the language (L1, L2, L10, L12, L14), over all files of the package."""

import ast
import unittest
from pathlib import Path

import tabletsky

FOLDER = Path(tabletsky.__file__).parent
FROM_LIBRARY = {"heapq", "math", "itertools", "collections", "__future__"}


def files():
    return sorted(path for path in FOLDER.rglob("*.py") if "__pycache__" not in path.parts)


def trees():
    for path in files():
        yield path.name, ast.parse(path.read_text(encoding="utf-8"))


class ThePackage(unittest.TestCase):
    def test_nothing_but_files_of_the_language(self):
        others = [path for path in FOLDER.rglob("*") if path.is_file() and path.suffix not in (".py", ".pyc")]
        self.assertEqual(others, [])
        self.assertIn("__init__.py", [path.name for path in files()])

    def test_signs_and_sizes(self):
        for path in files():
            text = path.read_text(encoding="utf-8")
            rows = text.split("\n")
            with self.subTest(file=path.name):
                self.assertEqual([sign for sign in text if sign != "\n" and not " " <= sign <= "~"], [])
                self.assertLess(len(rows), 401)
                self.assertEqual([row for row in rows if len(row) > 120], [])

    def test_functions_are_small(self):
        for name, tree in trees():
            for node in ast.walk(tree):
                if isinstance(node, ast.FunctionDef):
                    with self.subTest(file=name, function=node.name):
                        self.assertLess(node.end_lineno - node.lineno, 40)

    def test_names_of_classes_begin_with_a_letter(self):
        for name, tree in trees():
            for node in ast.walk(tree):
                if isinstance(node, ast.ClassDef):
                    with self.subTest(file=name, row=node.lineno):
                        self.assertRegex(node.name, "^[A-Za-z]")

    def test_imports_are_of_the_package_or_allowed(self):
        for name, tree in trees():
            for node in ast.walk(tree):
                with self.subTest(file=name):
                    self.assertNotIsInstance(node, ast.Import)
                    if isinstance(node, ast.ImportFrom):
                        self.assertEqual(node.level, 0)
                        self.assertTrue(node.module in FROM_LIBRARY or node.module.startswith("tabletsky."))
                        self.assertNotIn("*", [alias.name for alias in node.names])


if __name__ == "__main__":
    unittest.main()
