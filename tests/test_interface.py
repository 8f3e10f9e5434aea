"""The names, files and arguments of the interface, and the form that is easily checked."""

import ast
import importlib
import inspect
import pathlib

from tests.helpers import CROSSED, FOUR, THREE, TwinTest
from tests.interface import CLASSES, FUNCTIONS

PACKAGE = pathlib.Path(__file__).resolve().parent.parent / "idealtwin"
GIVEN = {
    "size": 2, "cells": FOUR, "row": [1, 0, 2], "crossings": [0, 0, 1], "outlet": 0, "slot": 1, "last": 5, "index": 1,
    "speeds": (1, 2), "rhythm": [1, 1, 2], "side": "outputs", "number": 2, "longest": 3, "rule": "urgent",
    "other_crossings": [0, 1, 1], "waiting": CROSSED, "picks": [1, 3], "other_picks": [0, 2], "frame": (2, THREE),
    "rounds": 3, "numbers": [10 ** 30, 0],
}
# What the language of the package lets it import from elsewhere.
LIBRARY = {"math": ["gcd"]}
# Functions that raise an error with these values get others.
OTHERS = {
    "plan_by_coming": {"cells": THREE, "row": [0, 1, 1]}, "nth_plan": {"speeds": (2, 2)},
    "parse_cells": {"text": "0:0:0 2:1:1"}, "parse_row": {"text": "2 1 4"},
}


class InterfaceTest(TwinTest):

    def test_functions_stand_in_their_files(self):
        for module, functions in FUNCTIONS.items():
            for name in functions:
                with self.subTest(name):
                    function = getattr(importlib.import_module(module), name)
                    self.assertTrue(inspect.isfunction(function))
                    self.assertEqual((function.__module__, function.__name__), (module, name))

    def test_arguments_by_position_and_by_name(self):
        for module, functions in FUNCTIONS.items():
            for name, parameters in functions.items():
                with self.subTest(name):
                    function = getattr(importlib.import_module(module), name)
                    self.assertEqual(list(inspect.signature(function).parameters), parameters)
                    given = dict(GIVEN, value=THREE)
                    given.update(OTHERS.get(name, {}))
                    named = {parameter: given[parameter] for parameter in parameters}
                    by_position = function(*named.values())
                    self.assert_same(function(**named), by_position)
                    self.assert_same(function(**dict(reversed(named.items()))), by_position)


    def test_classes_stand_in_their_files(self):
        for module, classes in CLASSES.items():
            for name, (bases, parameters, methods, properties) in classes.items():
                with self.subTest(name):
                    found = getattr(importlib.import_module(module), name)
                    self.assertTrue(inspect.isclass(found))
                    self.assertEqual((found.__module__, found.__name__), (module, name))
                    self.assertEqual([base.__name__ for base in found.__bases__], bases)
                    own = dict(methods, __init__=parameters)
                    for method, told in own.items():
                        self.assertEqual(list(inspect.signature(vars(found)[method]).parameters), ["self", *told])
                    for listed in properties:
                        self.assertIsInstance(vars(found)[listed], property)

    def test_nothing_else_is_public(self):
        for module, classes in CLASSES.items():
            for name in classes:
                found = getattr(importlib.import_module(module), name)
                listed = {"RULE"}
                for base in found.__mro__[:-1]:
                    _, _, methods, properties = classes[base.__name__]
                    listed |= {*methods, *properties}
                self.assertEqual([word for word in dir(found) if word[0] != "_" and word not in listed], [])


class FormTest(TwinTest):

    def setUp(self):
        super().setUp()
        self.texts = {path.name: path.read_bytes().decode("utf-8") for path in PACKAGE.glob("*.py")}

    def test_files(self):
        kept = [path.name for path in PACKAGE.iterdir() if path.name != "__pycache__"]
        self.assertEqual(sorted(kept), sorted(self.texts))
        self.assertIn("__init__.py", kept)

    def test_size_and_characters(self):
        for name, text in self.texts.items():
            with self.subTest(name):
                lines = text.split("\n")
                self.assertLessEqual(len(lines), 400)
                self.assertLessEqual(max(len(line) for line in lines), 120)
                self.assertEqual([sign for sign in text if not " " <= sign <= "~" and sign != "\n"], [])

    def test_functions_are_short_and_plain(self):
        for name, text in self.texts.items():
            for node in ast.walk(ast.parse(text)):
                if isinstance(node, ast.FunctionDef):
                    with self.subTest(name, function=node.name):
                        self.assertLessEqual(node.end_lineno - node.lineno + 1, 40)
                        self.assertIsNotNone(ast.get_docstring(node) or node.name.startswith("_"))

    def test_imports_come_from_the_package(self):
        for name, text in self.texts.items():
            for node in ast.walk(ast.parse(text)):
                if isinstance(node, ast.ImportFrom) and node.module in LIBRARY:
                    with self.subTest(name, line=node.lineno):
                        self.assertEqual([alias.asname for alias in node.names], [None] * len(node.names))
                        self.assertLessEqual({alias.name for alias in node.names}, set(LIBRARY[node.module]))
                elif isinstance(node, ast.ImportFrom):
                    with self.subTest(name, line=node.lineno):
                        module, _, rest = node.module.partition(".")
                        self.assertEqual((module, node.level), ("idealtwin", 0))
                        self.assertIn(rest + ".py", self.texts)
                self.assertNotIsInstance(node, ast.Import)
