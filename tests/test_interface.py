"""The interface: names, parameters, and the files in which they are defined."""

import importlib
import inspect
import os
import unittest

import frontback

FOLDER = os.path.dirname(os.path.abspath(frontback.__file__))

FUNCTIONS = {
    "rows": [
        ("is_row", ["value"]), ("is_program", ["value"]), ("run", ["program", "row"]), ("steps", ["program", "row"]),
        ("fate", ["program", "word"]),
    ],
    "meanings": [
        ("meaning", ["program"]), ("is_meaning", ["value"]), ("apply", ["meaning", "row"]),
        ("agree", ["program", "other"]), ("difference", ["program", "other"]), ("joined", ["meaning", "other"]),
        ("settles", ["program"]), ("forgets", ["program", "other"]), ("commute", ["program", "other"]),
    ],
    "shortest": [
        ("shortest", ["meaning"]), ("orders", ["meaning"]), ("all_shortest", ["meaning"]), ("idle", ["program"]),
    ],
    "routes": [("distance", ["row", "other"]), ("route", ["row", "other"]), ("routes", ["row", "other"])],
    "probes": [
        ("tells", ["names", "rows"]), ("fewest", ["number"]), ("probes", ["names", "fences"]),
        ("learned", ["names", "results", "fences"]),
    ],
    "backwards": [
        ("sources", ["program", "row", "names"]), ("source", ["program", "row", "names"]), ("sure", ["program"]),
        ("always_before", ["program", "word", "other"]),
    ],
    "texts": [("write", ["program"]), ("read", ["text"])],
}

# The methods and properties of each class, which stand in the class itself; operators are called by their signs.
CLASSES = {
    ("programs", "Program"): {
        "methods": [("__call__", ["self", "row"])],
        "class methods": [("of", ["meaning"])],
        "operators": ["__add__", "__mul__", "__eq__", "__len__", "__contains__"],
        "properties": ["operations", "meaning"],
        "starred": (["self"], True),
    },
    ("programs", "ShortProgram"): {
        "methods": [], "class methods": [], "operators": [], "properties": [], "starred": (["self"], True),
    },
    ("editor", "Editor"): {
        "methods": [
            ("do", ["self", "operation"]), ("run", ["self", "program"]), ("undo", ["self"]), ("short", ["self"]),
        ],
        "class methods": [],
        "operators": ["__eq__", "__len__", "__contains__"],
        "properties": ["row", "done", "start"],
        "starred": (["self", "row"], False),
    },
    ("editor", "LockedEditor"): {
        "methods": [], "class methods": [], "operators": [], "properties": ["locked"],
        "starred": (["self", "row"], True),
    },
}

# All other parameters have no default.
DEFAULTS = {"fences": ("left", "right")}


class Interface(unittest.TestCase):
    def test_init_is_empty(self):
        self.assertEqual(os.path.getsize(os.path.join(FOLDER, "__init__.py")), 0)

    def test_functions(self):
        for file, functions in FUNCTIONS.items():
            module = importlib.import_module("frontback." + file)
            for name, parameters in functions:
                with self.subTest(name):
                    function = getattr(module, name)
                    self.assertEqual(function.__module__, "frontback." + file)
                    self.assertEqual(function.__name__, name)
                    found = inspect.signature(function).parameters
                    self.assertEqual(list(found), parameters)
                    for parameter in found.values():
                        self.assertEqual(parameter.kind, inspect.Parameter.POSITIONAL_OR_KEYWORD)
                        default = DEFAULTS.get(parameter.name, inspect.Parameter.empty)
                        self.assertEqual(parameter.default, default)

    def test_classes(self):
        for (file, name), parts in CLASSES.items():
            found = getattr(importlib.import_module("frontback." + file), name)
            self.assertEqual([found.__module__, found.__name__], ["frontback." + file, name])
            own = vars(found)
            for method, parameters in parts["methods"]:
                self.assertEqual(list(inspect.signature(own[method]).parameters), parameters)
                self.assertEqual(own[method].__kwdefaults__ or own[method].__defaults__, None)
            for method, parameters in parts["class methods"]:
                self.assertIsInstance(own[method], classmethod)
                self.assertEqual(list(inspect.signature(getattr(found, method)).parameters), parameters)
            for operator in parts["operators"]:
                self.assertTrue(inspect.isfunction(own[operator]), operator)
            for name_of_property in parts["properties"]:
                self.assertIsInstance(own[name_of_property], property)
                self.assertIsNone(own[name_of_property].fset)

    def test_constructors(self):
        for (file, name), parts in CLASSES.items():
            found = getattr(importlib.import_module("frontback." + file), name)
            parameters = list(inspect.signature(vars(found)["__init__"]).parameters.values())
            plain, starred = parts["starred"]
            kinds = [inspect.Parameter.POSITIONAL_OR_KEYWORD] * len(plain)
            kinds = kinds + [inspect.Parameter.VAR_POSITIONAL] * starred
            self.assertEqual([parameter.kind for parameter in parameters], kinds)
            self.assertEqual([parameter.name for parameter in parameters][:len(plain)], plain)

    def test_words_is_a_value_of_the_class(self):
        programs = importlib.import_module("frontback.programs")
        self.assertEqual(vars(programs.Program)["WORDS"], 12)
        self.assertEqual(programs.ShortProgram.WORDS, 12)

    def test_locked(self):
        errors = importlib.import_module("frontback.errors")
        found = inspect.signature(errors.Locked).parameters
        self.assertEqual(list(found), ["word"])
        self.assertIsNone(found["word"].default)


if __name__ == "__main__":
    unittest.main()
