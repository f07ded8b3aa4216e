"""What holds for every file of the package: a few rules that are easy to break."""

import ast
import builtins
import unittest
from pathlib import Path

PACKAGE = Path(__file__).resolve().parent.parent / "offscale"
LIBRARY = ("heapq", "math", "itertools", "collections")
ALLOWED = (
    "len", "range", "enumerate", "zip", "min", "max", "sum", "abs", "sorted", "reversed", "int", "str", "bool", "list",
    "tuple", "dict", "set", "isinstance", "any", "all", "divmod", "property", "classmethod", "NotImplemented",
    "ValueError", "LookupError", "TypeError", "KeyError", "Exception",
)

# Names that values of Python's own have as methods: no attribute is called so.
TAKEN = (
    "items", "keys", "values", "pop", "update", "append", "clear", "extend", "insert", "remove", "reverse", "setdefault",
    "sort", "args", "encode", "decode", "hex", "fromhex", "format",
)

# What the document lists, file by file; of classes with what must stand in the body of the class itself.
FUNCTIONS = {
    "fractions": (
        "is_fraction", "fraction", "plus", "minus", "times", "over", "part_of", "total", "compare", "floor_of",
    ),
    "systems": ("holds", "solve", "never_holds"),
    "rules": ("place", "figure"),
    "steps": ("working_error", "misfit", "operands_of", "notes_of", "count_steps"),
    "texts": ("working_text", "read_working"),
    "runs": ("run", "trail"),
    "sheets": ("sheet",),
    "claims": ("wish_error", "runs_off", "alike", "meets"),
    "points": ("carry", "tally", "book_fails", "right_books", "paper_holds"),
    "slack": ("slack", "widest"),
}
CLASSES = {
    ("forms", "Form"): (
        "__init__", "terms", "constant", "names", "factor", "__add__", "__sub__", "__neg__", "__mul__", "__call__",
        "__eq__", "__str__",
    ),
    ("rules", "Rule"): ("__init__", "common", "body", "slide", "scale", "is_sliding", "__contains__", "__eq__"),
    ("sheets", "Cell"): ("__init__", "point", "__contains__"),
    ("desks", "Desk"): (
        "__init__", "rule", "names", "version", "change_rule", "__getitem__", "__setitem__", "drop", "wish", "wish_of",
        "undo", "together", "__contains__", "__len__", "__eq__", "__str__",
    ),
}


def files():
    return [path for path in sorted(PACKAGE.rglob("*")) if "__pycache__" not in path.parts]


def trees():
    return [(path.name, ast.parse(path.read_text())) for path in files()]


def defined_in(body):
    """The names of the functions and classes that are defined in a body, with what is in them."""
    return {node.name: node for node in body if isinstance(node, (ast.FunctionDef, ast.ClassDef))}


def is_plain(node):
    """Whether a value is written out: no call, no name, no operator but a minus sign."""
    kinds = (ast.Constant, ast.Tuple, ast.List, ast.Dict, ast.UnaryOp, ast.USub, ast.Load)
    return all(isinstance(one, kinds) for one in ast.walk(node))


class InterfaceTest(unittest.TestCase):
    def test_functions_stand_in_their_files(self):
        for name, wanted in FUNCTIONS.items():
            found = defined_in(ast.parse((PACKAGE / (name + ".py")).read_text()).body)
            for function in wanted:
                with self.subTest(file=name, function=function):
                    self.assertIsInstance(found.get(function), ast.FunctionDef)

    def test_classes_have_their_methods_themselves(self):
        for (name, kind), wanted in CLASSES.items():
            found = defined_in(ast.parse((PACKAGE / (name + ".py")).read_text()).body)
            self.assertIsInstance(found.get(kind), ast.ClassDef)
            for method in wanted:
                with self.subTest(file=name, kind=kind, method=method):
                    self.assertIn(method, defined_in(found[kind].body))


class PackageTest(unittest.TestCase):
    def test_only_python_files(self):
        self.assertIn(PACKAGE / "__init__.py", files())
        for path in files():
            self.assertEqual(path.suffix, ".py", path.name)

    def test_characters_and_sizes(self):
        for path in files():
            with self.subTest(path=path.name):
                text = path.read_bytes()
                self.assertEqual([code for code in text if code != 10 and not 32 <= code <= 126], [])
                lines = text.split(b"\n")
                self.assertLessEqual(len(lines), 400)
                self.assertLessEqual(max(len(line) for line in lines), 120)

    def test_functions_are_short(self):
        for name, tree in trees():
            for node in ast.walk(tree):
                if isinstance(node, ast.FunctionDef):
                    with self.subTest(path=name, function=node.name):
                        self.assertLessEqual(node.end_lineno - node.lineno + 1, 40)

    def test_imports(self):
        for name, tree in trees():
            for node in ast.walk(tree):
                self.assertNotIsInstance(node, ast.Import, name)
                if isinstance(node, ast.ImportFrom):
                    with self.subTest(path=name, line=node.lineno):
                        self.assertEqual(node.level, 0)
                        self.assertIn(node.module.split(".")[0], ("offscale", *LIBRARY))

    def test_module_level(self):
        for name, tree in trees():
            for node in tree.body:
                with self.subTest(path=name, line=node.lineno):
                    if isinstance(node, ast.Assign):
                        self.assertEqual([type(target) for target in node.targets], [ast.Name])
                        self.assertTrue(is_plain(node.value))
                    elif isinstance(node, ast.Expr):
                        self.assertIsInstance(node.value, ast.Constant)
                    else:
                        self.assertIsInstance(node, (ast.ImportFrom, ast.FunctionDef, ast.ClassDef))

    def test_attributes(self):
        methods, properties, attributes = set(), set(), set()
        for _, tree in trees():
            for kind in [node for node in tree.body if isinstance(node, ast.ClassDef)]:
                for method in defined_in(kind.body).values():
                    decorators = [one.id for one in method.decorator_list]
                    (properties if "property" in decorators else methods).add(method.name)
            for node in ast.walk(tree):
                if isinstance(node, ast.Attribute) and isinstance(node.ctx, ast.Store):
                    attributes.add(node.attr)
        self.assertEqual(sorted(attributes & (methods | properties | set(TAKEN))), [])
        self.assertEqual(sorted(methods & properties), [])

    def test_strings(self):
        for name, tree in trees():
            for node in ast.walk(tree):
                if isinstance(node, ast.Constant) and isinstance(node.value, str):
                    with self.subTest(path=name, line=node.lineno):
                        self.assertNotIn("%", node.value)
                        self.assertNotIn("__", node.value)

    def test_operators_and_statements_that_are_not_used(self):
        barred = (ast.Global, ast.AsyncFunctionDef, ast.Await, ast.MatMult, ast.AnnAssign, ast.NamedExpr)
        for name, tree in trees():
            for node in ast.walk(tree):
                self.assertNotIsInstance(node, barred, name)

    def test_no_floats(self):
        for name, tree in trees():
            for node in ast.walk(tree):
                self.assertNotIsInstance(node, ast.Div, name)
                if isinstance(node, ast.Constant):
                    self.assertNotIsInstance(node.value, float, name)

    def test_builtins(self):
        for name, tree in trees():
            for node in ast.walk(tree):
                if isinstance(node, ast.Name) and node.id in vars(builtins):
                    with self.subTest(path=name, line=node.lineno):
                        self.assertIn(node.id, ALLOWED)
                        self.assertIsInstance(node.ctx, ast.Load)

    def test_no_name_of_a_builtin_is_taken(self):
        for name, tree in trees():
            for node in ast.walk(tree):
                if isinstance(node, (ast.FunctionDef, ast.ClassDef)):
                    self.assertNotIn(node.name, vars(builtins), name)
                if isinstance(node, ast.arg):
                    self.assertNotIn(node.arg, vars(builtins), name)

    def test_no_local_name_is_an_import(self):
        for name, tree in trees():
            imported = {alias.name for node in tree.body if isinstance(node, ast.ImportFrom) for alias in node.names}
            for node in ast.walk(tree):
                if isinstance(node, ast.arg):
                    self.assertNotIn(node.arg, imported, name)
                if isinstance(node, ast.Name) and not isinstance(node.ctx, ast.Load):
                    self.assertNotIn(node.id, imported, name)

    def test_lists_instead_of_generator_expressions(self):
        # Classes of the package compare, so any, all, min, max, sum and sorted take lists.
        for name, tree in trees():
            for node in ast.walk(tree):
                self.assertNotIsInstance(node, ast.GeneratorExp, name)

    def test_no_module_imports_in_a_circle(self):
        imports = {}
        for name, tree in trees():
            froms = [node.module for node in tree.body if isinstance(node, ast.ImportFrom)]
            imports[name] = [module.split(".")[1] + ".py" for module in froms if module.startswith("offscale.")]
        while imports:
            free = [name for name, wanted in imports.items() if not [one for one in wanted if one in imports]]
            self.assertTrue(free, sorted(imports))
            imports = {name: wanted for name, wanted in imports.items() if name not in free}


if __name__ == "__main__":
    unittest.main()
