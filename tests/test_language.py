"""Some rules of the language that the package is written in: files, sizes, characters and imports."""

import ast
import pathlib
import unittest

PACKAGE = pathlib.Path(__file__).resolve().parent.parent / "tailpick"
FILES = sorted(path for path in PACKAGE.rglob("*.py"))
LIBRARY = ["heapq", "math", "itertools", "collections", "__future__"]


def trees():
    return [(path, ast.parse(path.read_text())) for path in FILES]


def is_docstring(node):
    return isinstance(node, ast.Expr) and isinstance(node.value, ast.Constant)


class LanguageTest(unittest.TestCase):

    def test_l1_l14_only_plain_files(self):
        found = [path for path in PACKAGE.rglob("*") if path.is_file() and "__pycache__" not in path.parts]
        self.assertEqual(sorted(found), FILES)
        self.assertIn(PACKAGE / "__init__.py", FILES)

    def test_l10_l14_sizes_and_characters(self):
        for path in FILES:
            lines = path.read_text().split("\n")
            self.assertLessEqual(len(lines), 399, path)
            for line in lines:
                self.assertLessEqual(len(line), 120, (path, line))
                self.assertTrue(all(" " <= sign <= "~" for sign in line), (path, line))

    def test_l10_functions_are_short(self):
        for path, tree in trees():
            for node in ast.walk(tree):
                if isinstance(node, ast.FunctionDef):
                    self.assertLessEqual(node.end_lineno - node.lineno + 1, 40, (path, node.name))

    def test_l2_l16_imports(self):
        defined = {f"tailpick.{path.stem}": {
            name for node in tree.body for name in names_bound_by(node)} for path, tree in trees()}
        for path, tree in trees():
            for node in ast.walk(tree):
                self.assertNotIsInstance(node, ast.Import, path)
                if isinstance(node, ast.ImportFrom) and node.module not in LIBRARY:
                    for alias in node.names:
                        self.assertIn(alias.name, defined[node.module], path)

    def test_l3_nothing_is_executed_at_module_level(self):
        plain = (ast.FunctionDef, ast.ClassDef, ast.ImportFrom, ast.Assign)
        for path, tree in trees():
            for node in tree.body:
                self.assertTrue(isinstance(node, plain) or is_docstring(node), (path, node.lineno))

    def test_l27_strings(self):
        for path, tree in trees():
            for node in ast.walk(tree):
                if isinstance(node, ast.Constant) and isinstance(node.value, str):
                    self.assertNotIn("%", node.value, path)


def names_bound_by(node):
    """The names that a statement defines, imports left out."""
    if isinstance(node, (ast.FunctionDef, ast.ClassDef)):
        return [node.name]
    if isinstance(node, ast.Assign):
        return [target.id for target in node.targets]
    return []


if __name__ == "__main__":
    unittest.main()
