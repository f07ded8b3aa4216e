"""What holds for every file of the package: a few rules that are easy to break."""

import ast
import unittest
from pathlib import Path

PACKAGE = Path(__file__).resolve().parent.parent / "offscale"
LIBRARY = ("heapq", "math", "itertools", "collections")


def files():
    return [path for path in sorted(PACKAGE.rglob("*")) if "__pycache__" not in path.parts]


def trees():
    return [(path.name, ast.parse(path.read_text())) for path in files()]


class PackageTest(unittest.TestCase):
    def test_only_python_files(self):
        self.assertIn(PACKAGE / "__init__.py", files())
        for path in files():
            self.assertEqual(path.suffix, ".py", path.name)

    def test_characters_and_sizes(self):
        for path in files():
            with self.subTest(path=path.name):
                text = path.read_bytes()
                self.assertEqual([code for code in text if code != 10 and not 32 <= code <= 126], [])
                lines = text.split(b"\n")
                self.assertLessEqual(len(lines), 400)
                self.assertLessEqual(max(len(line) for line in lines), 120)

    def test_functions_are_short(self):
        for name, tree in trees():
            for node in ast.walk(tree):
                if isinstance(node, ast.FunctionDef):
                    with self.subTest(path=name, function=node.name):
                        self.assertLessEqual(node.end_lineno - node.lineno + 1, 40)

    def test_imports(self):
        for name, tree in trees():
            for node in ast.walk(tree):
                self.assertNotIsInstance(node, ast.Import, name)
                if isinstance(node, ast.ImportFrom):
                    with self.subTest(path=name, line=node.lineno):
                        self.assertEqual(node.level, 0)
                        self.assertIn(node.module.split(".")[0], ("offscale", *LIBRARY))

    def test_no_floats(self):
        for name, tree in trees():
            for node in ast.walk(tree):
                self.assertNotIsInstance(node, ast.Div, name)
                if isinstance(node, ast.Constant):
                    self.assertNotIsInstance(node.value, float, name)


if __name__ == "__main__":
    unittest.main()
