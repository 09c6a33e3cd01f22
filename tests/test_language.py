"""Some rules of the language that the package is written in: files, sizes, characters and imports."""

import ast
import builtins
import pathlib
import unittest

PACKAGE = pathlib.Path(__file__).resolve().parent.parent / "tailpick"
FILES = sorted(path for path in PACKAGE.rglob("*.py"))
# L8, without what other rules take away or bind to certain files.
BUILTINS = """len range enumerate zip min max sum abs sorted reversed int str bool list tuple dict set isinstance
    ord repr any all divmod ValueError property classmethod staticmethod NotImplemented""".split()
LIBRARY = ["heapq", "math", "itertools", "collections", "__future__"]


def trees():
    return [(path, ast.parse(path.read_text())) for path in FILES]


def is_docstring(node):
    return isinstance(node, ast.Expr) and isinstance(node.value, ast.Constant)


class LanguageTest(unittest.TestCase):

    def test_l1_l14_only_plain_files(self):
        found = [path for path in PACKAGE.rglob("*") if path.is_file() and "__pycache__" not in path.parts]
        self.assertEqual(sorted(found), FILES)
        self.assertIn(PACKAGE / "__init__.py", FILES)

    def test_l10_l14_sizes_and_characters(self):
        for path in FILES:
            lines = path.read_text().split("\n")
            self.assertLessEqual(len(lines), 399, path)
            for line in lines:
                self.assertLessEqual(len(line), 120, (path, line))
                self.assertTrue(all(" " <= sign <= "~" for sign in line), (path, line))

    def test_l10_functions_are_short(self):
        for path, tree in trees():
            for node in ast.walk(tree):
                if isinstance(node, ast.FunctionDef):
                    self.assertLessEqual(node.end_lineno - node.lineno + 1, 40, (path, node.name))

    def test_l2_l16_imports(self):
        defined = {f"tailpick.{path.stem}": {
            name for node in tree.body for name in names_bound_by(node)} for path, tree in trees()}
        for path, tree in trees():
            for node in ast.walk(tree):
                self.assertNotIsInstance(node, ast.Import, path)
                if isinstance(node, ast.ImportFrom) and node.module not in LIBRARY:
                    for alias in node.names:
                        self.assertIn(alias.name, defined[node.module], path)

    def test_l16_no_circles_of_imports(self):
        left = {f"tailpick.{path.stem}": {
            node.module for node in tree.body if isinstance(node, ast.ImportFrom)} for path, tree in trees()}
        while left:
            free = [module for module, wanted in left.items() if not wanted & set(left)]
            self.assertTrue(free, sorted(left))
            for module in free:
                del left[module]

    def test_l15_no_variable_is_called_like_a_class_or_an_import_of_its_file(self):
        for path, tree in trees():
            taken = {alias.name for node in tree.body if isinstance(node, ast.ImportFrom) for alias in node.names}
            taken |= {node.name for node in tree.body if isinstance(node, ast.ClassDef)}
            for node in ast.walk(tree):
                if isinstance(node, ast.arg):
                    self.assertNotIn(node.arg, taken, (path, node.lineno))
                if isinstance(node, ast.Name) and not isinstance(node.ctx, ast.Load):
                    self.assertNotIn(node.id, taken, (path, node.lineno))

    def test_l3_nothing_is_executed_at_module_level(self):
        plain = (ast.FunctionDef, ast.ClassDef, ast.ImportFrom, ast.Assign)
        for path, tree in trees():
            for node in tree.body:
                self.assertTrue(isinstance(node, plain) or is_docstring(node), (path, node.lineno))

    def test_l7_no_generator_expressions_and_no_true_division(self):
        for path, tree in trees():
            for node in ast.walk(tree):
                self.assertNotIsInstance(node, (ast.GeneratorExp, ast.Div), path)
                self.assertFalse(isinstance(node, ast.Constant) and isinstance(node.value, (float, complex)), path)

    def test_l8_l15_builtins(self):
        for path, tree in trees():
            for node in ast.walk(tree):
                if isinstance(node, ast.Name) and hasattr(builtins, node.id):
                    self.assertIn(node.id, BUILTINS, (path, node.lineno))
                    self.assertIsInstance(node.ctx, ast.Load, (path, node.lineno))
                if isinstance(node, ast.arg):
                    self.assertFalse(hasattr(builtins, node.arg), (path, node.lineno))

    def test_l19_no_errors_of_python_are_caught(self):
        for path, tree in trees():
            for node in ast.walk(tree):
                if isinstance(node, ast.ExceptHandler):
                    self.assertFalse(hasattr(builtins, ast.unparse(node.type)), (path, node.lineno))

    def test_l28_str_returns_texts(self):
        for path, tree in trees():
            for node in ast.walk(tree):
                if isinstance(node, ast.FunctionDef) and node.name in ["__str__", "__repr__"]:
                    for line in ast.walk(node):
                        if isinstance(line, ast.Return):
                            self.assertIsInstance(line.value, (ast.Constant, ast.JoinedStr, ast.Call), path)

    def test_l27_strings(self):
        for path, tree in trees():
            for node in ast.walk(tree):
                if isinstance(node, ast.Constant) and isinstance(node.value, str):
                    self.assertNotIn("%", node.value, path)


def names_bound_by(node):
    """The names that a statement defines, imports left out."""
    if isinstance(node, (ast.FunctionDef, ast.ClassDef)):
        return [node.name]
    if isinstance(node, ast.Assign):
        return [target.id for target in node.targets]
    return []


if __name__ == "__main__":
    unittest.main()
