"""What holds for every file of the package: a few rules that are easy to break."""

import ast
import builtins
import unittest
from pathlib import Path

PACKAGE = Path(__file__).resolve().parent.parent / "offscale"
LIBRARY = ("heapq", "math", "itertools", "collections")
ALLOWED = (
    "len", "range", "enumerate", "zip", "min", "max", "sum", "abs", "sorted", "reversed", "int", "str", "bool", "list",
    "tuple", "dict", "set", "isinstance", "any", "all", "divmod", "property", "classmethod", "NotImplemented",
    "ValueError", "LookupError", "TypeError", "KeyError", "Exception",
)


def files():
    return [path for path in sorted(PACKAGE.rglob("*")) if "__pycache__" not in path.parts]


def trees():
    return [(path.name, ast.parse(path.read_text())) for path in files()]


class PackageTest(unittest.TestCase):
    def test_only_python_files(self):
        self.assertIn(PACKAGE / "__init__.py", files())
        for path in files():
            self.assertEqual(path.suffix, ".py", path.name)

    def test_characters_and_sizes(self):
        for path in files():
            with self.subTest(path=path.name):
                text = path.read_bytes()
                self.assertEqual([code for code in text if code != 10 and not 32 <= code <= 126], [])
                lines = text.split(b"\n")
                self.assertLessEqual(len(lines), 400)
                self.assertLessEqual(max(len(line) for line in lines), 120)

    def test_functions_are_short(self):
        for name, tree in trees():
            for node in ast.walk(tree):
                if isinstance(node, ast.FunctionDef):
                    with self.subTest(path=name, function=node.name):
                        self.assertLessEqual(node.end_lineno - node.lineno + 1, 40)

    def test_imports(self):
        for name, tree in trees():
            for node in ast.walk(tree):
                self.assertNotIsInstance(node, ast.Import, name)
                if isinstance(node, ast.ImportFrom):
                    with self.subTest(path=name, line=node.lineno):
                        self.assertEqual(node.level, 0)
                        self.assertIn(node.module.split(".")[0], ("offscale", *LIBRARY))

    def test_no_floats(self):
        for name, tree in trees():
            for node in ast.walk(tree):
                self.assertNotIsInstance(node, ast.Div, name)
                if isinstance(node, ast.Constant):
                    self.assertNotIsInstance(node.value, float, name)

    def test_builtins(self):
        for name, tree in trees():
            for node in ast.walk(tree):
                if isinstance(node, ast.Name) and node.id in vars(builtins):
                    with self.subTest(path=name, line=node.lineno):
                        self.assertIn(node.id, ALLOWED)
                        self.assertIsInstance(node.ctx, ast.Load)

    def test_no_name_of_a_builtin_is_taken(self):
        for name, tree in trees():
            for node in ast.walk(tree):
                if isinstance(node, (ast.FunctionDef, ast.ClassDef)):
                    self.assertNotIn(node.name, vars(builtins), name)
                if isinstance(node, ast.arg):
                    self.assertNotIn(node.arg, vars(builtins), name)

    def test_no_local_name_is_an_import(self):
        for name, tree in trees():
            imported = {alias.name for node in tree.body if isinstance(node, ast.ImportFrom) for alias in node.names}
            for node in ast.walk(tree):
                if isinstance(node, ast.arg):
                    self.assertNotIn(node.arg, imported, name)
                if isinstance(node, ast.Name) and not isinstance(node.ctx, ast.Load):
                    self.assertNotIn(node.id, imported, name)

    def test_lists_instead_of_generator_expressions(self):
        # Classes of the package compare, so any, all, min, max, sum and sorted take lists.
        for name, tree in trees():
            for node in ast.walk(tree):
                self.assertNotIsInstance(node, ast.GeneratorExp, name)

    def test_no_module_imports_in_a_circle(self):
        imports = {}
        for name, tree in trees():
            froms = [node.module for node in tree.body if isinstance(node, ast.ImportFrom)]
            imports[name] = [module.split(".")[1] + ".py" for module in froms if module.startswith("offscale.")]
        while imports:
            free = [name for name, wanted in imports.items() if not [one for one in wanted if one in imports]]
            self.assertTrue(free, sorted(imports))
            imports = {name: wanted for name, wanted in imports.items() if name not in free}


if __name__ == "__main__":
    unittest.main()
