"""The interface: names, parameters, and the files in which they are defined."""

import importlib
import inspect
import os
import unittest

import frontback

FOLDER = os.path.dirname(os.path.abspath(frontback.__file__))

FUNCTIONS = {
    "rows": [
        ("is_row", ["value"]), ("is_program", ["value"]), ("run", ["program", "row"]), ("steps", ["program", "row"]),
        ("fate", ["program", "word"]),
    ],
    "meanings": [
        ("meaning", ["program"]), ("is_meaning", ["value"]), ("apply", ["meaning", "row"]),
        ("agree", ["program", "other"]), ("difference", ["program", "other"]), ("joined", ["meaning", "other"]),
        ("settles", ["program"]), ("forgets", ["program", "other"]), ("commute", ["program", "other"]),
    ],
    "shortest": [
        ("shortest", ["meaning"]), ("orders", ["meaning"]), ("all_shortest", ["meaning"]), ("idle", ["program"]),
    ],
    "routes": [("distance", ["row", "other"]), ("route", ["row", "other"]), ("routes", ["row", "other"])],
    "probes": [
        ("tells", ["names", "rows"]), ("fewest", ["number"]), ("probes", ["names", "fences"]),
        ("learned", ["names", "results", "fences"]),
    ],
}

# All other parameters have no default.
DEFAULTS = {"fences": ("left", "right")}


class Interface(unittest.TestCase):
    def test_init_is_empty(self):
        self.assertEqual(os.path.getsize(os.path.join(FOLDER, "__init__.py")), 0)

    def test_functions(self):
        for file, functions in FUNCTIONS.items():
            module = importlib.import_module("frontback." + file)
            for name, parameters in functions:
                with self.subTest(name):
                    function = getattr(module, name)
                    self.assertEqual(function.__module__, "frontback." + file)
                    self.assertEqual(function.__name__, name)
                    found = inspect.signature(function).parameters
                    self.assertEqual(list(found), parameters)
                    for parameter in found.values():
                        self.assertEqual(parameter.kind, inspect.Parameter.POSITIONAL_OR_KEYWORD)
                        default = DEFAULTS.get(parameter.name, inspect.Parameter.empty)
                        self.assertEqual(parameter.default, default)

    def test_locked(self):
        errors = importlib.import_module("frontback.errors")
        found = inspect.signature(errors.Locked).parameters
        self.assertEqual(list(found), ["word"])
        self.assertIsNone(found["word"].default)


if __name__ == "__main__":
    unittest.main()
