"""The package keeps to the rules of LANGUAGE.md that a look at its files can tell."""

import ast
import builtins
import pathlib
import re
import unittest
import warnings

PACKAGE = pathlib.Path(__file__).resolve().parent.parent / "numbergaps"

LIBRARY = {
    "heapq": {"heappush", "heappop", "heapify", "heapreplace", "heappushpop"},
    "math": {"gcd", "lcm", "isqrt", "comb", "perm", "factorial"},
    "itertools": {"product", "combinations", "permutations"},
}
BUILTINS = set(
    "len range enumerate zip min max sum abs sorted reversed int str bool list tuple dict set isinstance"
    " ord repr any all divmod map iter next super property staticmethod classmethod"
    " Exception ValueError TypeError KeyError IndexError LookupError ZeroDivisionError ArithmeticError"
    " OverflowError RuntimeError NotImplementedError AttributeError StopIteration NotImplemented".split()
)
METHODS = set(
    "append clear copy count endswith extend find get index insert isalnum isalpha isdigit islower isspace"
    " isupper items join keys ljust lower lstrip partition pop remove replace reverse rfind rjust rpartition"
    " rsplit rstrip setdefault split splitlines startswith strip update upper values zfill bit_length"
    " add discard sort isascii isdecimal".split()
)
DOUBLE = {"__init__", "__eq__", "__repr__", "__str__", "__len__", "__iter__", "__call__"}
NOWHERE = {"register", "mro", "elements", "open", "input", "law", "version_info", "with_traceback", "add_note"}
BARRED = (
    ast.Global, ast.AsyncFunctionDef, ast.AsyncFor, ast.AsyncWith, ast.Await, ast.Import, ast.Div,
    ast.MatMult, ast.Set,
)
AT_MODULE_LEVEL = (ast.ImportFrom, ast.FunctionDef, ast.ClassDef, ast.Assign)


def names_bound(tree):
    """All names that a file gives to something, without attributes."""
    for part in ast.walk(tree):
        if isinstance(part, (ast.FunctionDef, ast.ClassDef)):
            yield part.name
        elif isinstance(part, ast.arg):
            yield part.arg
        elif isinstance(part, ast.Name) and isinstance(part.ctx, ast.Store):
            yield part.id
        elif isinstance(part, ast.alias):
            yield part.asname or part.name


class Language(unittest.TestCase):
    def setUp(self):
        self.texts = {
            path.name: path.read_bytes().decode("ascii")
            for path in sorted(PACKAGE.iterdir()) if path.name != "__pycache__"
        }
        with warnings.catch_warnings():
            warnings.simplefilter("error")
            self.trees = {name: ast.parse(text) for name, text in self.texts.items()}

    def parts(self, *kinds):
        for name, tree in self.trees.items():
            for part in ast.walk(tree):
                if isinstance(part, kinds):
                    yield name, part

    def test_files(self):
        self.assertIn("__init__.py", self.texts)
        for name, text in self.texts.items():
            self.assertRegex(name, r"^[a-z_0-9]+\.py$")
            self.assertLessEqual(len(text.splitlines()), 399, name)
            for row in text.split("\n"):
                self.assertLessEqual(len(row), 120, (name, row))
                self.assertRegex(row, r"^[ -~]*$", name)

    def test_functions_are_short(self):
        for name, part in self.parts(ast.FunctionDef):
            self.assertLessEqual(part.end_lineno - part.lineno + 1, 40, (name, part.name))

    def test_module_level(self):
        for name, tree in self.trees.items():
            for part in tree.body:
                docstring = isinstance(part, ast.Expr) and isinstance(part.value, ast.Constant)
                self.assertTrue(docstring or isinstance(part, AT_MODULE_LEVEL), (name, part.lineno))

    def test_imports(self):
        for name, part in self.parts(ast.ImportFrom):
            names = {one.name for one in part.names}
            self.assertEqual(part.level, 0, name)
            if part.module in LIBRARY:
                self.assertLessEqual(names, LIBRARY[part.module], name)
                continue
            package, _, module = part.module.partition(".")
            self.assertEqual(package, "numbergaps", name)
            defined = {one.name for one in self.trees[module + ".py"].body if hasattr(one, "name")}
            for one in self.trees[module + ".py"].body:
                if isinstance(one, ast.Assign):
                    defined.add(one.targets[0].id)
            self.assertLessEqual(names, defined, name)

    def test_what_does_not_occur(self):
        for name, part in self.parts(*BARRED):
            self.fail((name, part.lineno, type(part).__name__))
        for name, part in self.parts(ast.Constant):
            self.assertNotIsInstance(part.value, float, name)
            if isinstance(part.value, str):
                self.assertNotIn(chr(37), part.value, (name, part.lineno))
        for name, part in self.parts(ast.BinOp):
            if isinstance(part.op, ast.Pow):
                self.assertIsInstance(part.right, ast.Constant, (name, part.lineno))

    def test_names(self):
        for name, tree in self.trees.items():
            for bound in names_bound(tree):
                self.assertNotIn(bound, vars(builtins), name)
                self.assertNotIn(bound, NOWHERE, name)
                if bound not in DOUBLE:
                    self.assertIsNone(re.match("__|_[^a-z]", bound), (name, bound))

    def test_builtins(self):
        for name, part in self.parts(ast.Name):
            if part.id in vars(builtins):
                self.assertIn(part.id, BUILTINS, (name, part.lineno))

    def test_methods_that_are_called(self):
        own = set()
        for _, owner in self.parts(ast.ClassDef):
            own |= {part.name for part in owner.body if isinstance(part, ast.FunctionDef)}
        for name, part in self.parts(ast.Call):
            if isinstance(part.func, ast.Attribute):
                self.assertIn(part.func.attr, METHODS | own, (name, part.lineno))


if __name__ == "__main__":
    unittest.main()
