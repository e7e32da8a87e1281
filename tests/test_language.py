"""The files of the package keep to what can be seen at a glance of ../shared/LANGUAGE.md."""

import ast
import sys
import unittest
from pathlib import Path

PACKAGE = Path(__file__).resolve().parent.parent / "overrounds"
LIBRARY = {"__future__", "collections", "heapq", "itertools", "math"}
TAKES_LISTS = {"any", "all", "min", "max", "sum", "sorted"}


def all_files():
    return [path for path in sorted(PACKAGE.rglob("*")) if path.is_file() and "__pycache__" not in path.parts]


def all_trees():
    return [(path, ast.parse(path.read_text("ascii"))) for path in all_files()]


def module_of(path):
    parts = path.relative_to(PACKAGE.parent).with_suffix("").parts
    return ".".join(parts[:-1] if parts[-1] == "__init__" else parts)


class Files(unittest.TestCase):
    def test_there_are_python_files_only(self):
        self.assertEqual([path for path in all_files() if path.suffix != ".py"], [])
        self.assertLessEqual(len(all_files()), 100)
        for path in all_files():
            self.assertTrue((path.parent / "__init__.py").is_file(), path)
            self.assertEqual(path.name, path.name.lower())

    def test_characters_and_sizes(self):
        for path in all_files():
            text = path.read_bytes().decode("ascii")
            self.assertTrue(all(" " <= sign <= "~" or sign == "\n" for sign in text), path)
            lines = text.splitlines()
            self.assertLessEqual(len(lines), 399, path)
            self.assertLessEqual(max([len(line) for line in lines]), 120, path)

    def test_functions_are_short_and_have_no_odd_decorators(self):
        for path, tree in all_trees():
            for node in ast.walk(tree):
                if isinstance(node, ast.FunctionDef):
                    self.assertLessEqual(node.end_lineno - node.lineno + 1, 40, (path, node.name))
                    for decorator in node.decorator_list:
                        self.assertIn(ast.unparse(decorator).split(".")[-1],
                                      ("property", "setter", "staticmethod", "classmethod"))

    def test_imports(self):
        modules = {module_of(path) for path in all_files()}
        for path, tree in all_trees():
            for node in ast.walk(tree):
                self.assertNotIsInstance(node, ast.Import)
                if isinstance(node, ast.ImportFrom):
                    self.assertIn(node, tree.body)
                    self.assertEqual(node.level, 0)
                    self.assertIn(node.module, modules | LIBRARY)

    def test_the_package_does_not_need_its_tests(self):
        names = {node.module for _, tree in all_trees() for node in ast.walk(tree) if isinstance(node, ast.ImportFrom)}
        self.assertFalse({"samples", "tests"} & names)
        self.assertNotIn("overrounds", sys.stdlib_module_names)

    def test_no_statements_or_values_beyond_the_subset(self):
        barred = (ast.AsyncFunctionDef, ast.Await, ast.AsyncFor, ast.AsyncWith, ast.Div)
        for path, tree in all_trees():
            for node in ast.walk(tree):
                self.assertNotIsInstance(node, barred, path)
                if isinstance(node, ast.Constant):
                    self.assertNotIsInstance(node.value, float, path)
                if isinstance(node, ast.Call) and ast.unparse(node.func) in TAKES_LISTS:
                    self.assertFalse([one for one in node.args if isinstance(one, ast.GeneratorExp)], path)


if __name__ == "__main__":
    unittest.main()
