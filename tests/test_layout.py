"""Where the interface of the document is defined, and what the language rules say of whole files."""

import ast
import builtins
import inspect
import os
import unittest

import handlesagain
from handlesagain import (benches, changes, console, crowds, errors, handles, notes, papers, plays, programs, searches,
                          sessions, systems, tables, texts, verdicts, witnesses)
from handlesagain.benches import Bench
from handlesagain.console import Console
from handlesagain.crowds import Crowd
from handlesagain.handles import Handle
from handlesagain.notes import Notes
from handlesagain.plays import Play
from handlesagain.programs import Program, Sort
from handlesagain.sessions import Session, Trials
from handlesagain.systems import Harm
from handlesagain.tables import Table

ERRORS = ["HandleError", "InvalidNumber", "InvalidName", "InvalidRow", "InvalidSort", "InvalidProgram", "InvalidText",
          "InvalidBook", "InvalidHands", "InvalidStep", "InvalidEdit", "InvalidCommand", "TooMany", "NothingToUndo"]

DEFINED = [
    (errors, ERRORS), (programs, ["is_row", "Sort", "Program"]), (texts, ["write", "read"]), (handles, ["Handle"]),
    (tables, ["Table"]), (benches, ["Bench"]), (plays, ["Play"]), (crowds, ["Crowd"]),
    (searches, ["shortest_fault", "is_safe", "faulty_rows", "shortest_stuck", "runs"]),
    (verdicts, ["is_right", "shortest_length", "least_turns"]), (witnesses, ["witness"]),
    (papers, ["paper", "accepts"]), (systems, ["compared", "hides", "turns_needed", "Harm"]),
    (changes, ["edited", "is_cure", "least_changes"]), (notes, ["Notes"]),
    (sessions, ["Session", "Trials", "together"]), (console, ["Console"]),
]

METHODS = [
    (Sort, ["__init__", "__getitem__", "__len__", "__contains__", "__eq__", "changed"], ["name", "rows", "own"]),
    (Program, ["__init__", "__getitem__", "__len__", "__contains__", "__eq__", "__or__", "lone", "pair"],
     ["sorts", "common", "locks"]),
    (Handle, ["__init__", "__eq__"], ["number", "turn", "entry", "text"]),
    (Table, ["__init__", "__getitem__", "__len__", "__contains__", "free", "give", "close", "renew", "use", "copied"],
     ["size", "book", "turns"]),
    (Bench, ["__init__", "__eq__", "__call__"], ["program", "hands", "size", "book", "turns"]),
    (Play, ["__init__", "__getitem__", "step", "steps", "row_of", "own_of", "is_taken", "table", "copied"],
     ["bench", "made", "words", "fault"]),
    (Crowd, ["__init__", "__eq__", "first_scene", "first_parts", "moves", "is_fault", "reached"], ["program", "turns"]),
    (Harm, ["__init__", "__lt__", "__le__", "__gt__", "__ge__", "__eq__", "__contains__", "__len__", "__bool__"],
     ["bench", "rows", "length"]),
    (Notes, ["__init__", "__setitem__", "__getitem__", "__contains__", "__len__", "listed"], []),
    (Session, ["__init__", "played", "step", "go", "rebench", "undo", "attempt"], ["bench", "made", "words"]),
    (Trials, ["__init__", "__enter__", "__exit__", "__len__", "enter"], []),
    (Console, ["__init__", "run"], []),
]

PARAMETERS = [
    (programs.is_row, ["value"]), (texts.write, ["program"]), (texts.read, ["text"]), (Program.lone, ["sort"]),
    (Program.pair, []), (Sort.changed, ["self", "at", "row"]), (Sort, ["name", "rows", "own"]),
    (Program, ["sorts", "common", "locks"]), (Handle, ["number", "turn", "entry"]), (Table, ["size", "book", "turns"]),
    (Table.free, ["self"]), (Table.give, ["self", "number"]), (Table.close, ["self", "handle"]),
    (Table.renew, ["self", "handle"]), (Table.use, ["self", "handle"]), (Table.copied, ["self"]),
    (Bench, ["program", "hands", "size", "book", "turns"]), (Bench.__call__, ["self", "run"]), (Play, ["bench"]),
    (Play.step, ["self", "hand", "choice"]), (Play.steps, ["self"]), (Play.row_of, ["self", "hand"]),
    (Play.own_of, ["self", "hand", "name"]), (Play.is_taken, ["self", "lock"]), (Play.table, ["self"]),
    (Play.copied, ["self"]), (searches.shortest_fault, ["bench"]), (searches.is_safe, ["bench"]),
    (searches.faulty_rows, ["bench"]), (searches.shortest_stuck, ["bench"]), (searches.runs, ["bench", "length"]),
    (Crowd, ["program", "turns"]), (Crowd.first_scene, ["self"]), (Crowd.first_parts, ["self"]),
    (Crowd.moves, ["self", "scene", "part"]), (Crowd.is_fault, ["self", "scene", "part"]), (Crowd.reached, ["self"]),
    (verdicts.is_right, ["crowd"]), (verdicts.shortest_length, ["crowd"]), (verdicts.least_turns, ["program"]),
    (witnesses.witness, ["crowd"]), (papers.paper, ["crowd"]), (papers.accepts, ["crowd", "value"]),
    (systems.compared, ["program", "hands", "size", "turns"]), (systems.hides, ["program", "hands", "size", "turns"]),
    (systems.turns_needed, ["bench"]), (Harm, ["bench"]), (changes.edited, ["program", "edits"]),
    (changes.is_cure, ["program", "edits", "turns"]), (changes.least_changes, ["program", "menu", "turns"]),
    (Notes, []), (Notes.listed, ["self"]), (Session, ["bench"]), (Session.played, ["self"]),
    (Session.step, ["self", "hand", "choice"]), (Session.go, ["self", "run"]), (Session.rebench, ["self", "bench"]),
    (Session.undo, ["self"]), (Session.attempt, ["self", "deeds"]), (Trials, []), (Trials.enter, ["self", "session"]),
    (sessions.together, ["sessions", "deeds"]), (Console, []), (Console.run, ["self", "line"]),
]

FOLDER = os.path.dirname(handlesagain.__file__)

LIBRARY = {"heapq", "math", "itertools"}

BUILTINS = {
    "len", "range", "enumerate", "zip", "min", "max", "sum", "abs", "sorted", "reversed", "int", "str", "bool", "list",
    "tuple", "dict", "set", "isinstance", "ord", "repr", "any", "all", "divmod", "iter", "next", "map", "Exception",
    "ValueError", "TypeError", "KeyError", "IndexError", "LookupError", "ZeroDivisionError", "ArithmeticError",
    "OverflowError", "RuntimeError", "NotImplementedError", "StopIteration", "NotImplemented", "property",
    "staticmethod", "classmethod", "super",
}


def sources():
    """The names and texts of the files of the package."""
    for folder, _, names in os.walk(FOLDER):
        for name in sorted(names):
            if name.endswith(".py"):
                path = os.path.join(folder, name)
                with open(path, encoding="utf-8") as file:
                    yield os.path.relpath(path, FOLDER), file.read()


class TestInterface(unittest.TestCase):
    def test_each_name_is_defined_in_its_file(self):
        for module, names in DEFINED:
            for name in names:
                self.assertEqual(getattr(module, name).__module__, module.__name__, name)
                self.assertEqual(getattr(module, name).__qualname__, name)

    def test_each_name_is_defined_by_def_or_class(self):
        for module, names in DEFINED:
            tree = ast.parse(inspect.getsource(module))
            defined = [row.name for row in tree.body if isinstance(row, (ast.FunctionDef, ast.ClassDef))]
            for name in names:
                self.assertIn(name, defined)

    def test_each_method_stands_in_its_class(self):
        for kind, methods, properties in METHODS:
            for name in methods + properties:
                self.assertIn(name, vars(kind), kind)
            for name in properties:
                self.assertIsInstance(vars(kind)[name], property)

    def test_static_methods(self):
        for name in ["lone", "pair"]:
            self.assertIsInstance(vars(Program)[name], staticmethod)

    def test_the_parameters_have_their_names(self):
        for function, names in PARAMETERS:
            self.assertEqual(list(inspect.signature(function).parameters), names, function)


class TestFiles(unittest.TestCase):
    def test_characters_and_sizes(self):
        for name, text in sources():
            self.assertTrue(all(sign == "\n" or " " <= sign <= "~" for sign in text), name)
            self.assertLessEqual(len(text.splitlines()), 399, name)
            self.assertLessEqual(max([0, *map(len, text.splitlines())]), 120, name)

    def test_functions_are_short(self):
        for name, text in sources():
            for node in ast.walk(ast.parse(text)):
                if isinstance(node, ast.FunctionDef):
                    self.assertLessEqual(node.end_lineno - node.lineno + 1, 40, (name, node.name))

    def test_only_the_builtins_of_the_language(self):
        for name, text in sources():
            for node in ast.walk(ast.parse(text)):
                if isinstance(node, ast.Name) and hasattr(builtins, node.id):
                    self.assertIn(node.id, BUILTINS, name)
                    self.assertIsInstance(node.ctx, ast.Load, (name, node.id))
                if isinstance(node, ast.FunctionDef):
                    self.assertNotIn(node.name, BUILTINS, name)
                if isinstance(node, ast.arg):
                    self.assertFalse(hasattr(builtins, node.arg), (name, node.arg))

    def test_statements_that_the_language_does_not_have(self):
        for name, text in sources():
            for node in ast.walk(ast.parse(text)):
                self.assertNotIsInstance(node, (ast.Global, ast.AsyncFunctionDef, ast.GeneratorExp, ast.Div), name)

    def test_no_two_files_import_from_each_other(self):
        ahead = {}
        for name, text in sources():
            nodes = [node for node in ast.walk(ast.parse(text)) if isinstance(node, ast.ImportFrom)]
            ahead[f"handlesagain.{name[:-3]}"] = [node.module for node in nodes]
        while ahead:
            ready = [name for name in ahead if not any(other in ahead for other in ahead[name])]
            self.assertNotEqual(ready, [], sorted(ahead))
            ahead = {name: ahead[name] for name in ahead if name not in ready}

    def test_imports(self):
        for name, text in sources():
            for node in ast.walk(ast.parse(text)):
                if isinstance(node, ast.Import):
                    self.assertEqual((name, [alias.name for alias in node.names]), ("__main__.py", ["sys"]))
                if isinstance(node, ast.ImportFrom):
                    self.assertEqual(node.level, 0, name)
                    self.assertIn(node.module.split(".")[0], LIBRARY | {"handlesagain", "__future__"}, name)

    def test_nothing_but_sources(self):
        for folder, folders, names in os.walk(FOLDER):
            if "__pycache__" in folders:
                folders.remove("__pycache__")
            self.assertEqual([name for name in names if not name.endswith(".py")], [])
            self.assertIn("__init__.py", names)


if __name__ == "__main__":
    unittest.main()
