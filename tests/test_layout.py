"""Where the interface of the document is defined, and what the language rules say of whole files."""

import ast
import inspect
import os
import unittest

import handlesagain
from handlesagain import errors, programs, texts
from handlesagain.programs import Program, Sort

ERRORS = ["HandleError", "InvalidNumber", "InvalidName", "InvalidRow", "InvalidSort", "InvalidProgram", "InvalidText",
          "InvalidBook", "InvalidHands", "InvalidStep", "InvalidEdit", "InvalidCommand", "TooMany", "NothingToUndo"]

DEFINED = [(errors, ERRORS), (programs, ["is_row", "Sort", "Program"]), (texts, ["write", "read"])]

METHODS = [
    (Sort, ["__init__", "__getitem__", "__len__", "__contains__", "__eq__", "changed"], ["name", "rows", "own"]),
    (Program, ["__init__", "__getitem__", "__len__", "__contains__", "__eq__", "__or__", "lone", "pair"],
     ["sorts", "common", "locks"]),
]

PARAMETERS = [
    (programs.is_row, ["value"]), (texts.write, ["program"]), (texts.read, ["text"]), (Program.lone, ["sort"]),
    (Program.pair, []), (Sort.changed, ["self", "at", "row"]), (Sort, ["name", "rows", "own"]),
    (Program, ["sorts", "common", "locks"]),
]

FOLDER = os.path.dirname(handlesagain.__file__)

LIBRARY = {"heapq", "math", "itertools"}


def sources():
    """The names and texts of the files of the package."""
    for folder, _, names in os.walk(FOLDER):
        for name in sorted(names):
            if name.endswith(".py"):
                path = os.path.join(folder, name)
                with open(path, encoding="utf-8") as file:
                    yield os.path.relpath(path, FOLDER), file.read()


class TestInterface(unittest.TestCase):
    def test_each_name_is_defined_in_its_file(self):
        for module, names in DEFINED:
            for name in names:
                self.assertEqual(getattr(module, name).__module__, module.__name__, name)
                self.assertEqual(getattr(module, name).__qualname__, name)

    def test_each_name_is_defined_by_def_or_class(self):
        for module, names in DEFINED:
            tree = ast.parse(inspect.getsource(module))
            defined = [row.name for row in tree.body if isinstance(row, (ast.FunctionDef, ast.ClassDef))]
            for name in names:
                self.assertIn(name, defined)

    def test_each_method_stands_in_its_class(self):
        for kind, methods, properties in METHODS:
            for name in methods + properties:
                self.assertIn(name, vars(kind), kind)
            for name in properties:
                self.assertIsInstance(vars(kind)[name], property)

    def test_static_methods(self):
        for name in ["lone", "pair"]:
            self.assertIsInstance(vars(Program)[name], staticmethod)

    def test_the_parameters_have_their_names(self):
        for function, names in PARAMETERS:
            self.assertEqual(list(inspect.signature(function).parameters), names, function)


class TestFiles(unittest.TestCase):
    def test_characters_and_sizes(self):
        for name, text in sources():
            self.assertTrue(all(sign == "\n" or " " <= sign <= "~" for sign in text), name)
            self.assertLessEqual(len(text.splitlines()), 399, name)
            self.assertLessEqual(max([0, *map(len, text.splitlines())]), 120, name)

    def test_imports(self):
        for name, text in sources():
            for node in ast.walk(ast.parse(text)):
                if isinstance(node, ast.Import):
                    self.assertEqual((name, [alias.name for alias in node.names]), ("__main__.py", ["sys"]))
                if isinstance(node, ast.ImportFrom):
                    self.assertEqual(node.level, 0, name)
                    self.assertIn(node.module.split(".")[0], LIBRARY | {"handlesagain", "__future__"}, name)

    def test_nothing_but_sources(self):
        for folder, folders, names in os.walk(FOLDER):
            if "__pycache__" in folders:
                folders.remove("__pycache__")
            self.assertEqual([name for name in names if not name.endswith(".py")], [])
            self.assertIn("__init__.py", names)


if __name__ == "__main__":
    unittest.main()
