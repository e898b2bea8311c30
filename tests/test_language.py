"""The package keeps to the interface and to what is plain to see of the language's rules."""

import ast
import builtins
import inspect
import os
import unittest

import cornerfade
from cornerfade import errors, zooms
from tests.interface import FUNCTIONS, METHODS

FOLDER = os.path.dirname(os.path.abspath(cornerfade.__file__))
CLASSES = ("MapError", "BadValue", "BadText", "BadLevels", "CannotDrop", "NoStage", "NotLegal")
LIBRARY = {
    "heapq": {"heappush", "heappop", "heapify", "heapreplace", "heappushpop"},
    "math": {"gcd", "lcm", "isqrt", "comb", "perm", "factorial"},
    "itertools": {
        "product", "combinations", "permutations", "chain", "accumulate", "pairwise", "islice",
        "zip_longest",
    },
    "collections": {"defaultdict", "deque"},
}
BUILTINS = set(
    "len range enumerate zip min max sum abs sorted reversed int str bool list tuple dict set"
    " isinstance ord repr any all divmod pow iter next map Exception ValueError TypeError KeyError"
    " IndexError LookupError ZeroDivisionError NotImplemented property staticmethod classmethod"
    " super type print".split()
)
NOT_ALLOWED = (
    ast.AsyncFunctionDef, ast.AsyncFor, ast.AsyncWith, ast.Await, ast.Div, ast.MatMult, ast.Global,
    ast.GeneratorExp,
)


def files():
    """(name, text, tree) of every file of the package."""
    found = []
    for name in sorted(os.listdir(FOLDER)):
        if name != "__pycache__":
            with open(os.path.join(FOLDER, name), encoding="ascii") as file:
                text = file.read()
            found.append((name, text, ast.parse(text)))
    return found


class InterfaceTest(unittest.TestCase):
    def test_functions(self):
        for module, functions in FUNCTIONS.items():
            for name, parameters in functions.items():
                function = getattr(module, name)
                self.assertTrue(inspect.isfunction(function))
                self.assertEqual(function.__module__, module.__name__)
                self.assertEqual(list(inspect.signature(function).parameters), parameters)

    def test_classes(self):
        for name in CLASSES:
            self.assertEqual(getattr(errors, name).__module__, "cornerfade.errors")

    def test_zoom(self):
        self.assertEqual(zooms.Zoom.__module__, "cornerfade.zooms")
        self.assertEqual(list(inspect.signature(zooms.Zoom).parameters), ["world"])
        for name, parameters in METHODS.items():
            method = vars(zooms.Zoom)[name]
            self.assertTrue(inspect.isfunction(method))
            self.assertEqual(list(inspect.signature(method).parameters), ["self"] + parameters)


class LanguageTest(unittest.TestCase):
    def test_files(self):
        for name, text, tree in files():
            self.assertRegex(name, r"\A[a-z_0-9]+\.py\Z")
            self.assertTrue(text.isascii() and "\t" not in text and "\r" not in text)
            self.assertLessEqual(len(text.splitlines()), 399)
            self.assertLessEqual(max(len(line) for line in text.splitlines()), 120)
            for node in ast.walk(tree):
                if isinstance(node, ast.FunctionDef):
                    self.assertLessEqual(node.end_lineno - node.lineno + 1, 40)
                    self.assertTrue(node.name == "__init__" or ast.get_docstring(node), node.name)

    def test_imports(self):
        names = {name[:-3] for name, _, _ in files()}
        for name, _, tree in files():
            for node in ast.walk(tree):
                self.assertNotIsInstance(node, ast.Import)
                if isinstance(node, ast.ImportFrom):
                    self.assertIn(node, tree.body)
                    self.assertEqual(node.level, 0)
                    words = {alias.name for alias in node.names}
                    if node.module in LIBRARY:
                        self.assertLessEqual(words, LIBRARY[node.module], name)
                    else:
                        package, _, file = node.module.partition(".")
                        self.assertEqual(package, "cornerfade")
                        self.assertIn(file, names)
                        self.assertNotIn("*", words)

    def test_builtins(self):
        known = set(dir(builtins))
        for name, _, tree in files():
            for node in ast.walk(tree):
                if isinstance(node, ast.Name):
                    self.assertTrue(
                        node.id not in known or node.id in BUILTINS and isinstance(node.ctx, ast.Load),
                        (name, node.lineno, node.id),
                    )
                if isinstance(node, (ast.FunctionDef, ast.ClassDef)):
                    self.assertNotIn(node.name, known)
                if isinstance(node, ast.arg):
                    self.assertNotIn(node.arg, known)

    def test_statements_and_values(self):
        for name, _, tree in files():
            for node in ast.walk(tree):
                self.assertNotIsInstance(node, NOT_ALLOWED, name)
                if isinstance(node, ast.Constant):
                    self.assertNotIsInstance(node.value, (float, complex), name)
                    if isinstance(node.value, str):
                        self.assertNotIn("%", node.value)
                if isinstance(node, ast.ExceptHandler):
                    self.assertIsNotNone(node.type)

    def test_module_level(self):
        allowed = (ast.ImportFrom, ast.FunctionDef, ast.ClassDef, ast.Assign)
        for name, _, tree in files():
            self.assertIsNotNone(ast.get_docstring(tree), name)
            for node in tree.body[1:]:
                self.assertIsInstance(node, allowed, name)


if __name__ == "__main__":
    unittest.main()
