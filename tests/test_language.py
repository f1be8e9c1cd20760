"""Those rules of the language of the package that can be read off the text of its files."""

import ast
import builtins
import os
import unittest

import frontback

FOLDER = os.path.dirname(os.path.abspath(frontback.__file__))

LIBRARY = {
    "heapq": {"heappush", "heappop", "heapify", "heapreplace", "heappushpop"},
    "math": {"gcd", "lcm", "isqrt", "comb", "perm", "factorial"},
    "itertools": {"product", "combinations", "permutations", "chain", "accumulate", "pairwise", "islice",
                  "zip_longest"},
    "collections": {"defaultdict", "deque"},
}

BARRED_NAMES = {
    "typing", "enum", "Enum", "Generic", "Protocol", "ABC", "namedtuple", "mro", "elements", "law", "os", "sys", "gc",
    "open", "input", "compile", "eval", "exec", "globals", "locals", "vars", "dir", "chr", "float", "filter", "print",
}

# The special methods that the package uses, with their parameters; a None stands for any others.
SPECIAL = {
    "__init__": None, "__call__": ["self", "row"], "__add__": ["self", "other"], "__mul__": ["self", "other"],
    "__eq__": ["self", "other"], "__len__": ["self"], "__contains__": ["self", "x"],
}

BUILTIN_METHODS = {name for value in ("", b"", [], {}, set(), 0) for name in dir(value) if not name.startswith("_")}

BARRED_KINDS = (ast.AsyncFunctionDef, ast.AsyncFor, ast.AsyncWith, ast.Await, ast.Div, ast.Import)


def files():
    """The names of the files of the package."""
    return sorted(name for name in os.listdir(FOLDER) if name != "__pycache__")


def text_of(name):
    """The text of a file of the package."""
    with open(os.path.join(FOLDER, name), encoding="utf-8") as file:
        return file.read()


def imports_of(tree):
    """The import statements at the top of a file."""
    return [node for node in tree.body if isinstance(node, ast.ImportFrom)]


class Files(unittest.TestCase):
    def test_only_python_files_with_plain_names(self):
        for name in files():
            self.assertRegex(name, r"\A(__init__|[a-z][a-z0-9_]*)\.py\Z")

    def test_characters_and_sizes(self):
        for name in files():
            text = text_of(name)
            self.assertTrue(all(sign == "\n" or " " <= sign <= "~" for sign in text), name)
            lines = text.split("\n")
            self.assertLess(len(lines), 400, name)
            self.assertLessEqual(max(len(line) for line in lines), 120, name)


class Trees(unittest.TestCase):
    def setUp(self):
        self.trees = {name: ast.parse(text_of(name)) for name in files()}
        self.nodes = [(name, node) for name, tree in self.trees.items() for node in ast.walk(tree)]

    def test_functions_are_short(self):
        for name, node in self.nodes:
            if isinstance(node, ast.FunctionDef):
                self.assertLessEqual(node.end_lineno - node.lineno + 1, 40, (name, node.name))

    def test_imports(self):
        for name, node in self.nodes:
            if isinstance(node, ast.ImportFrom):
                self.assertEqual(node.level, 0)
                self.assertTrue(all(alias.asname is None and alias.name != "*" for alias in node.names))
                if node.module in LIBRARY:
                    self.assertLessEqual({alias.name for alias in node.names}, LIBRARY[node.module])
                else:
                    self.assertRegex(node.module, r"\Afrontback\.[a-z_]+\Z")

    def test_module_level(self):
        for name, tree in self.trees.items():
            bound = []
            for node in tree.body:
                if isinstance(node, ast.Expr):
                    self.assertIsInstance(node.value, ast.Constant)
                elif isinstance(node, ast.ImportFrom):
                    bound = bound + [alias.name for alias in node.names]
                elif isinstance(node, ast.Assign):
                    bound = bound + [target.id for target in node.targets]
                else:
                    self.assertIsInstance(node, (ast.FunctionDef, ast.ClassDef))
                    bound.append(node.name)
            self.assertEqual(len(bound), len(set(bound)), name)

    def test_barred_names_and_kinds(self):
        for name, node in self.nodes:
            self.assertNotIsInstance(node, BARRED_KINDS, name)
            for field in ("id", "attr", "arg", "name"):
                self.assertNotIn(getattr(node, field, None), BARRED_NAMES, name)
            if isinstance(node, ast.Constant):
                self.assertNotIsInstance(node.value, (float, complex), name)

    def test_no_generator_expressions_and_no_attempts(self):
        for name, node in self.nodes:
            self.assertNotIsInstance(node, (ast.GeneratorExp, ast.Try, ast.Lambda, ast.AugAssign, ast.Global), name)

    def test_stars_stand_before_plain_names_in_calls(self):
        stars = [node for name, node in self.nodes if isinstance(node, ast.Starred)]
        calls = [node for name, node in self.nodes if isinstance(node, ast.Call)]
        self.assertTrue(all(isinstance(star.value, ast.Name) for star in stars))
        self.assertTrue(all(any(star in call.args for call in calls) for star in stars))

    def test_library_is_only_called(self):
        for name, tree in self.trees.items():
            taken = {alias.name for node in imports_of(tree) if node.module in LIBRARY for alias in node.names}
            called = [node.func for node in ast.walk(tree) if isinstance(node, ast.Call) and not node.keywords]
            for node in ast.walk(tree):
                if isinstance(node, ast.Name) and node.id in taken:
                    self.assertIn(node, called, name)
                if isinstance(node, ast.FunctionDef):
                    self.assertNotIn(node.name, taken, name)

    def test_locals_hide_no_builtins_classes_or_imports(self):
        for name, tree in self.trees.items():
            taken = {node.name for node in tree.body if isinstance(node, ast.ClassDef)} | set(vars(builtins))
            taken = taken | {alias.name for node in imports_of(tree) for alias in node.names}
            for node in ast.walk(tree):
                if isinstance(node, ast.arg):
                    self.assertNotIn(node.arg, taken, name)
                if isinstance(node, ast.Name) and isinstance(node.ctx, ast.Store):
                    self.assertNotIn(node.id, taken, name)

    def test_no_two_files_import_from_each_other(self):
        imports = {
            name[:-3]: {node.module.split(".")[1] for node in imports_of(tree) if node.module not in LIBRARY}
            for name, tree in self.trees.items()
        }
        while imports:
            ready = [name for name in imports if not imports[name] & set(imports)]
            self.assertNotEqual(ready, [], imports)
            imports = {name: imports[name] for name in imports if name not in ready}


class Classes(unittest.TestCase):
    def setUp(self):
        trees = [ast.parse(text_of(name)) for name in files()]
        self.nodes = [node for tree in trees for node in ast.walk(tree)]
        self.classes = [node for node in self.nodes if isinstance(node, ast.ClassDef)]
        self.methods = [(owner, node) for owner in self.classes for node in owner.body
                        if isinstance(node, ast.FunctionDef)]

    def marks(self, method):
        return [mark.id for mark in method.decorator_list]

    def test_special_methods(self):
        for owner, method in self.methods:
            if method.name.startswith("__"):
                self.assertIn(method.name, SPECIAL)
                parameters = [argument.arg for argument in method.args.args]
                self.assertEqual(parameters, SPECIAL[method.name] or parameters)
                self.assertEqual(self.marks(method), [])
            else:
                self.assertNotIn(method.name, BUILTIN_METHODS)

    def test_marks(self):
        for owner in self.classes:
            self.assertEqual(owner.decorator_list, [])
        for node in self.nodes:
            if isinstance(node, ast.FunctionDef):
                self.assertLessEqual(set(self.marks(node)), {"property", "classmethod"})
                self.assertLessEqual(len(self.marks(node)), 1)

    def test_what_equality_and_lengths_return(self):
        for owner, method in self.methods:
            if method.name == "__eq__":
                line = ast.unparse(method.body[0])
                self.assertTrue(line.startswith(f"return isinstance(other, {owner.name}) and "), line)
            if method.name == "__len__":
                self.assertTrue(ast.unparse(method.body[-1]).startswith("return len("))
            if method.name in ("__eq__", "__len__", "__contains__") or self.marks(method) == ["property"]:
                texts = [node for node in method.body if isinstance(node, ast.Expr)]
                self.assertEqual(len(method.body), len(texts) + 1)

    def test_names_of_properties_and_attributes(self):
        properties = {method.name for owner, method in self.methods if self.marks(method) == ["property"]}
        methods = {method.name for owner, method in self.methods} - properties
        stored = {node.attr for node in self.nodes if isinstance(node, ast.Attribute)
                  and isinstance(node.ctx, ast.Store)}
        read = {node.attr for node in self.nodes if isinstance(node, ast.Attribute)}
        self.assertEqual(properties & methods, set())
        self.assertEqual(stored & (properties | methods | BUILTIN_METHODS), set())
        self.assertLessEqual(read - stored - properties - methods, BUILTIN_METHODS | {"__init__"})

    def test_errors_have_no_bodies_but_one(self):
        for owner in self.classes:
            if owner.name.startswith(("Invalid", "No", "Too")):
                self.assertEqual([type(node) for node in owner.body], [ast.Expr])

    def test_generators_are_iterated_at_once(self):
        generators = {node.name for node in self.nodes if isinstance(node, ast.FunctionDef)
                      and any(isinstance(part, (ast.Yield, ast.YieldFrom)) for part in ast.walk(node))}
        calls = [node for node in self.nodes if isinstance(node, ast.Call) and isinstance(node.func, ast.Name)]
        inner = [node for node in calls if node.func.id in generators]
        listed = [call.args[0] for call in calls if call.func.id == "list" and call.args]
        self.assertEqual(generators, {"steps", "all_shortest"})
        self.assertTrue(all(node in listed for node in inner))
        self.assertEqual({method.name for owner, method in self.methods} & generators, set())


if __name__ == "__main__":
    unittest.main()
