"""The parts of the language rules that can be looked at without running the package.

These are L1, L2, L10, L14, L15, L16 (no circle), L17 (names), L22 (arguments) and L27.
"""

import ast
import builtins
import os
import unittest
import warnings

PACKAGE = os.path.join(os.path.dirname(os.path.dirname(os.path.abspath(__file__))), "onewatcher")
NAMES = sorted(name for name in os.listdir(PACKAGE) if name != "__pycache__")
LIBRARY = ("heapq", "math", "itertools", "collections", "__future__")
NOWHERE = ("register", "mro", "elements", "open", "input", "law", "version_info", "with_traceback", "add_note")
NO_VARIABLES = ("attrgetter", "compile", "copyright", "credits", "dir", "eval", "exec", "exit", "gc", "help", "id",
                "license", "locals", "methodcaller", "os", "quit", "super", "sys", "type", "vars")
OF_BUILTINS = dir(str) + dir(list) + dir(dict) + dir(set) + dir(tuple) + dir(int)


def source(name):
    with open(os.path.join(PACKAGE, name), "rb") as file:
        return file.read()


def imports_of(name):
    """The imports from the package in a file."""
    return [node for node in ast.walk(ast.parse(source(name)))
            if isinstance(node, ast.ImportFrom) and node.module.startswith("onewatcher.")]


def names_at_module_level(name):
    names = []
    for node in ast.parse(source(name)).body:
        if isinstance(node, (ast.FunctionDef, ast.ClassDef)):
            names.append(node.name)
        if isinstance(node, ast.Assign):
            names += [target.id for target in node.targets]
    return names


def bound_names(tree):
    """The names of functions and classes, of parameters, and of all that is assigned."""
    for node in ast.walk(tree):
        if isinstance(node, ast.Name) and isinstance(node.ctx, ast.Store):
            yield node.id
        if isinstance(node, ast.arg):
            yield node.arg
    for node in tree.body:
        if isinstance(node, (ast.FunctionDef, ast.ClassDef)):
            yield node.name


class LanguageTest(unittest.TestCase):
    def test_the_folder_holds_modules_alone(self):
        self.assertIn("__init__.py", NAMES)
        for name in NAMES:
            self.assertRegex(name, "^[a-z0-9_]+[.]py$")

    def test_characters_and_lines(self):
        for name in NAMES:
            data = source(name)
            self.assertTrue(all(code == 10 or 32 <= code <= 126 for code in data), name)
            lines = data.decode("ascii").splitlines()
            self.assertLessEqual(len(lines), 399, name)
            self.assertLessEqual(max((len(line) for line in lines), default=0), 120, name)

    def test_no_warnings(self):
        with warnings.catch_warnings():
            warnings.simplefilter("error")
            for name in NAMES:
                compile(source(name), name, "exec")

    def test_lengths_of_functions(self):
        for name in NAMES:
            for node in ast.walk(ast.parse(source(name))):
                if isinstance(node, ast.FunctionDef):
                    self.assertLessEqual(node.end_lineno - node.lineno + 1, 40, (name, node.name))

    def test_imports(self):
        for name in NAMES:
            for node in ast.walk(ast.parse(source(name))):
                self.assertNotIsInstance(node, ast.Import, name)
                if isinstance(node, ast.ImportFrom):
                    self.assertEqual(node.level, 0, name)
                    inside = node.module.startswith("onewatcher.") and node.module.split(".")[1] + ".py" in NAMES
                    self.assertTrue(inside or node.module in LIBRARY, (name, node.module))

    def test_strings_have_no_percent_sign(self):
        for name in NAMES:
            for node in ast.walk(ast.parse(source(name))):
                if isinstance(node, ast.Constant) and isinstance(node.value, str):
                    self.assertNotIn("\x25", node.value, name)

    def test_imported_names_are_defined_there(self):
        for name in NAMES:
            for node in imports_of(name):
                defined = names_at_module_level(node.module.split(".")[1] + ".py")
                for alias in node.names:
                    self.assertIsNone(alias.asname)
                    self.assertIn(alias.name, defined, name)

    def test_no_circle_of_imports(self):
        needed = {name: [node.module.split(".")[1] + ".py" for node in imports_of(name)] for name in NAMES}
        while needed:
            free = [name for name, others in needed.items() if not any(other in needed for other in others)]
            self.assertNotEqual(free, [], needed)
            for name in free:
                del needed[name]

    def test_no_name_of_a_builtin_or_an_import(self):
        for name in NAMES:
            imported = [alias.name for node in imports_of(name) for alias in node.names]
            for bound in bound_names(ast.parse(source(name))):
                self.assertNotIn(bound, dir(builtins), name)
                self.assertNotIn(bound, imported, name)
                self.assertNotIn(bound, NO_VARIABLES, name)

    def test_tables_are_only_read(self):
        # A list or dict at module level is read by an index, by a method, by iteration or in a test; never handed on.
        tables = {}
        for name in NAMES:
            for node in ast.parse(source(name)).body:
                if isinstance(node, ast.Assign) and isinstance(node.value, (ast.Dict, ast.List)):
                    tables[name, node.targets[0].id] = True
        self.assertGreater(len(tables), 3)
        for name in NAMES:
            places = {alias.name: node.module.split(".")[1] + ".py" for node in imports_of(name) for alias in node.names}
            tree = ast.parse(source(name))
            read = []
            for node in ast.walk(tree):
                if isinstance(node, (ast.Subscript, ast.Attribute)):
                    read.append(node.value)
                if isinstance(node, ast.Compare):
                    read += node.comparators
                if isinstance(node, (ast.For, ast.comprehension)):
                    read.append(node.iter)
                if isinstance(node, ast.Call) and getattr(node.func, "id", "") in ("len", "list", "dict", "sorted"):
                    read += node.args
            for node in ast.walk(tree):
                if isinstance(node, ast.Name) and isinstance(node.ctx, ast.Load):
                    if (places.get(node.id, name), node.id) in tables:
                        self.assertIn(node, read, (name, node.id, node.lineno))

    def test_names_that_are_not_used(self):
        for name in NAMES:
            for node in ast.walk(ast.parse(source(name))):
                for field in ("id", "attr", "arg", "name"):
                    self.assertNotIn(getattr(node, field, None), NOWHERE, name)

    def test_arguments_of_methods(self):
        methods = {}
        for name in NAMES:
            for node in ast.walk(ast.parse(source(name))):
                if isinstance(node, ast.ClassDef):
                    for method in node.body:
                        if isinstance(method, ast.FunctionDef):
                            methods.setdefault(method.name, []).append(len(method.args.args) - 1)
        seen = 0
        for name in NAMES:
            for node in ast.walk(ast.parse(source(name))):
                if isinstance(node, ast.Call) and isinstance(node.func, ast.Attribute):
                    if node.func.attr in methods and node.func.attr not in OF_BUILTINS:
                        self.assertIn(len(node.args) + len(node.keywords), methods[node.func.attr],
                                      (name, node.lineno, node.func.attr))
                        seen += 1
        self.assertGreater(seen, 100)

    def test_arguments_of_functions_and_classes(self):
        counts = {}
        for name in NAMES:
            for node in ast.parse(source(name)).body:
                if isinstance(node, ast.FunctionDef):
                    counts[name, node.name] = (len(node.args.args) - len(node.args.defaults), len(node.args.args))
                if isinstance(node, ast.ClassDef):
                    for method in node.body:
                        if isinstance(method, ast.FunctionDef) and method.name == "__init__":
                            counts[name, node.name] = (len(method.args.args) - 1, len(method.args.args) - 1)
        for name in NAMES:
            places = {alias.name: node.module.split(".")[1] + ".py" for node in imports_of(name) for alias in node.names}
            for node in ast.walk(ast.parse(source(name))):
                if isinstance(node, ast.Call) and isinstance(node.func, ast.Name):
                    key = (places.get(node.func.id, name), node.func.id)
                    least, most = counts.get(key, (0, 99))
                    self.assertTrue(least <= len(node.args) + len(node.keywords) <= most, (name, node.lineno, key))


if __name__ == "__main__":
    unittest.main()
