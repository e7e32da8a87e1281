"""The files of the package keep to what can be seen at a glance of ../shared/LANGUAGE.md."""

import ast
import builtins
import sys
import unittest

from quiet import Package, all_files, all_trees, module_of, trees_by_module

LIBRARY = {"__future__", "collections", "heapq", "itertools", "math"}
TAKES_LISTS = {"any", "all", "min", "max", "sum", "sorted"}
BUILTIN_METHODS = set("""append clear copy count endswith extend find get index insert isalnum isalpha isdigit islower
isspace isupper items join keys ljust lower lstrip partition pop remove replace reverse rfind rjust rpartition rsplit
rstrip setdefault split splitlines startswith strip update upper values zfill bit_length""".split())
BARRED_NAMES = {"mro", "elements", "open", "input", "law", "version_info", "register", "typing", "enum", "dataclass",
                "overload", "product", "combinations", "permutations", "type", "chr", "globals", "locals", "eval"}
DOUBLE = {"__init__", "__eq__", "__str__", "__len__", "__iter__", "__getitem__", "__contains__", "__add__", "__and__",
          "__or__", "__iadd__", "__isub__", "__enter__", "__exit__"}


class Files(unittest.TestCase):
    def test_there_are_python_files_only(self):
        self.assertEqual([path for path in all_files() if path.suffix != ".py"], [])
        self.assertLessEqual(len(all_files()), 100)
        for path in all_files():
            self.assertTrue((path.parent / "__init__.py").is_file(), path)
            self.assertEqual(path.name, path.name.lower())

    def test_characters_and_sizes(self):
        for path in all_files():
            text = path.read_bytes().decode("ascii")
            self.assertTrue(all(" " <= sign <= "~" or sign == "\n" for sign in text), path)
            lines = text.splitlines()
            self.assertLessEqual(len(lines), 399, path)
            self.assertLessEqual(max([len(line) for line in lines]), 120, path)

    def test_functions_are_short_and_have_no_odd_decorators(self):
        for path, tree in all_trees():
            for node in ast.walk(tree):
                if isinstance(node, ast.FunctionDef):
                    self.assertLessEqual(node.end_lineno - node.lineno + 1, 40, (path, node.name))
                    for decorator in node.decorator_list:
                        self.assertIn(ast.unparse(decorator).split(".")[-1],
                                      ("property", "setter", "staticmethod", "classmethod"))

    def test_imports(self):
        modules = {module_of(path) for path in all_files()}
        for path, tree in all_trees():
            for node in ast.walk(tree):
                self.assertNotIsInstance(node, ast.Import)
                if isinstance(node, ast.ImportFrom):
                    self.assertIn(node, tree.body)
                    self.assertEqual(node.level, 0)
                    self.assertIn(node.module, modules | LIBRARY)

    def test_the_package_does_not_need_its_tests(self):
        names = {node.module for _, tree in all_trees() for node in ast.walk(tree) if isinstance(node, ast.ImportFrom)}
        self.assertFalse({"samples", "tests"} & names)
        self.assertNotIn("overrounds", sys.stdlib_module_names)

    def test_no_statements_or_values_beyond_the_subset(self):
        barred = (ast.AsyncFunctionDef, ast.Await, ast.AsyncFor, ast.AsyncWith, ast.Div)
        for path, tree in all_trees():
            for node in ast.walk(tree):
                self.assertNotIsInstance(node, barred, path)
                if isinstance(node, ast.Constant):
                    self.assertNotIsInstance(node.value, float, path)
                if isinstance(node, ast.Call) and ast.unparse(node.func) in TAKES_LISTS:
                    self.assertFalse([one for one in node.args if isinstance(one, ast.GeneratorExp)], path)

    def test_module_level(self):
        plain = (ast.ImportFrom, ast.FunctionDef, ast.ClassDef, ast.Assign)
        for path, tree in all_trees():
            self.assertTrue(ast.get_docstring(tree), path)
            names = []
            for node in tree.body[1:]:
                self.assertIsInstance(node, plain, path)
                if isinstance(node, ast.Assign):
                    self.assertEqual(len(node.targets), 1)
                    names.append(node.targets[0].id)
                elif isinstance(node, ast.ImportFrom):
                    names.extend(one.name for one in node.names)
                    self.assertTrue(all(one.asname is None for one in node.names))
                else:
                    names.append(node.name)
            self.assertEqual(len(names), len(set(names)), path)

    def test_imports_are_used_and_make_no_circle(self):
        uses = {}
        for path, tree in all_trees():
            told = [one.name for node in tree.body if isinstance(node, ast.ImportFrom) for one in node.names]
            read = {node.id for node in ast.walk(tree) if isinstance(node, ast.Name)}
            self.assertEqual([name for name in told if name not in read], [], path)
            uses[module_of(path)] = {node.module for node in tree.body if isinstance(node, ast.ImportFrom)} - LIBRARY
        while uses:
            free = [name for name in uses if not uses[name] & set(uses)]
            self.assertTrue(free, uses)
            for name in free:
                del uses[name]

    def test_names(self):
        for path, tree in all_trees():
            tops = {node.name for node in tree.body if isinstance(node, ast.ClassDef)}
            tops |= {one.name for node in tree.body if isinstance(node, ast.ImportFrom) for one in node.names}
            for node in ast.walk(tree):
                if isinstance(node, (ast.FunctionDef, ast.ClassDef)):
                    self.assertNotIn(node.name, BARRED_NAMES | set(dir(builtins)), path)
                bound = [node.arg] if isinstance(node, ast.arg) else []
                if isinstance(node, ast.Name) and isinstance(node.ctx, ast.Store):
                    bound = [node.id]
                for name in bound:
                    self.assertNotIn(name, BARRED_NAMES | set(dir(builtins)) | tops, path)
                    self.assertFalse(name.startswith("__"), path)
                if isinstance(node, ast.Tuple):
                    self.assertLessEqual(sum(isinstance(one, ast.Name) and one.id == "_" for one in node.elts), 1, path)

    def test_calls(self):
        own = {node.name for _, tree in all_trees() for node in ast.walk(tree) if isinstance(node, ast.FunctionDef)}
        for path, tree in all_trees():
            for node in ast.walk(tree):
                if not isinstance(node, ast.Call):
                    continue
                if isinstance(node.func, ast.Attribute):
                    self.assertIn(node.func.attr, BUILTIN_METHODS | own, path)
                    self.assertNotEqual(node.func.attr, "sort", path)
                elif isinstance(node.func, ast.Name) and node.func.id == "reversed":
                    self.assertRegex(ast.unparse(node.args[0]), r"^(list|tuple|sorted|range)\(", path)

    def test_generators_are_iterated_at_once(self):
        makers = set()
        for _, tree in all_trees():
            for node in ast.walk(tree):
                if isinstance(node, ast.FunctionDef) and any(isinstance(one, (ast.Yield, ast.YieldFrom))
                                                             for one in ast.walk(node)):
                    self.assertNotIn(node.name, makers)
                    makers.add(node.name)
        for path, tree in all_trees():
            places = []
            for node in ast.walk(tree):
                if isinstance(node, (ast.For, ast.comprehension)):
                    places.append(node.iter)
                elif isinstance(node, ast.YieldFrom):
                    places.append(node.value)
                elif isinstance(node, ast.Call) and ast.unparse(node.func) in TAKES_LISTS | {"list", "tuple", "dict"}:
                    places.extend(node.args[:1])
            for node in ast.walk(tree):
                if isinstance(node, ast.Call) and ast.unparse(node.func).split(".")[-1] in makers:
                    self.assertIn(node, places, (path, ast.unparse(node)))

    def test_statements_and_strings(self):
        barred = (ast.AugAssign, ast.Global, ast.Nonlocal, ast.Try, ast.Match, ast.Lambda, ast.GeneratorExp,
                  ast.NamedExpr, ast.AnnAssign)
        for path, tree in all_trees():
            for node in ast.walk(tree):
                self.assertNotIsInstance(node, barred, (path, getattr(node, "lineno", 0)))
                if isinstance(node, ast.Constant) and isinstance(node.value, str):
                    self.assertNotIn("%", node.value, path)
                    self.assertNotIn("__", node.value, path)
                if isinstance(node, ast.Raise):
                    self.assertIsInstance(node.exc, ast.Call, path)
                if isinstance(node, ast.With):
                    self.assertEqual(len(node.items), 1)
                    self.assertIsInstance(node.items[0].context_expr, ast.Call, path)
                    self.assertIsInstance(node.items[0].optional_vars, ast.Name, path)
                if isinstance(node, (ast.For, ast.comprehension)):
                    self.assertNotIsInstance(node.iter, (ast.Set, ast.SetComp), path)

    def test_classes(self):
        for path, tree in all_trees():
            for cls in [node for node in tree.body if isinstance(node, ast.ClassDef)]:
                self.assertFalse(cls.name.startswith("_"), path)
                methods = {node.name: node for node in cls.body if isinstance(node, ast.FunctionDef)}
                if "__getitem__" in methods:
                    self.assertIn("__iter__", methods)
                for name, node in methods.items():
                    if name.startswith("__"):
                        self.assertIn(name, DOUBLE)
                    if name == "__eq__":
                        self.assertEqual(len(node.body), 1)
                        first = f"return isinstance(other, {cls.name}) and "
                        self.assertTrue(ast.unparse(node.body[0]).startswith(first))
                    if name in ("__len__", "__str__", "__iter__"):
                        self.assertFalse([one for one in ast.walk(node) if isinstance(one, ast.Assign)], path)
                    if name == "__exit__":
                        self.assert_only_gives_back(node)

    def test_properties_and_operators_change_nothing(self):
        self.assertEqual(Package(trees_by_module()).faults(), [])

    def assert_only_gives_back(self, method):
        self.assertEqual([one.arg for one in method.args.args], ["self", "kind", "value", "trace"])
        for node in method.body:
            self.assertIsInstance(node, ast.Assign)
            self.assertEqual(len(node.targets), 1)
            for side in (node.targets[0], node.value):
                self.assertRegex(ast.unparse(side), r"^[a-z]+([.][a-z_]+)?$")


if __name__ == "__main__":
    unittest.main()
