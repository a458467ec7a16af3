"""The parts of the language rules that can be looked at without running the package: L1, L2, L10, L14, L27."""

import ast
import os
import unittest
import warnings

PACKAGE = os.path.join(os.path.dirname(os.path.dirname(os.path.abspath(__file__))), "onewatcher")
NAMES = sorted(name for name in os.listdir(PACKAGE) if name != "__pycache__")
LIBRARY = ("heapq", "math", "itertools", "collections", "__future__")


def source(name):
    with open(os.path.join(PACKAGE, name), "rb") as file:
        return file.read()


class LanguageTest(unittest.TestCase):
    def test_the_folder_holds_modules_alone(self):
        self.assertIn("__init__.py", NAMES)
        for name in NAMES:
            self.assertRegex(name, "^[a-z0-9_]+[.]py$")

    def test_characters_and_lines(self):
        for name in NAMES:
            data = source(name)
            self.assertTrue(all(code == 10 or 32 <= code <= 126 for code in data), name)
            lines = data.decode("ascii").splitlines()
            self.assertLessEqual(len(lines), 399, name)
            self.assertLessEqual(max((len(line) for line in lines), default=0), 120, name)

    def test_no_warnings(self):
        with warnings.catch_warnings():
            warnings.simplefilter("error")
            for name in NAMES:
                compile(source(name), name, "exec")

    def test_lengths_of_functions(self):
        for name in NAMES:
            for node in ast.walk(ast.parse(source(name))):
                if isinstance(node, ast.FunctionDef):
                    self.assertLessEqual(node.end_lineno - node.lineno + 1, 40, (name, node.name))

    def test_imports(self):
        for name in NAMES:
            for node in ast.walk(ast.parse(source(name))):
                self.assertNotIsInstance(node, ast.Import, name)
                if isinstance(node, ast.ImportFrom):
                    self.assertEqual(node.level, 0, name)
                    inside = node.module.startswith("onewatcher.") and node.module.split(".")[1] + ".py" in NAMES
                    self.assertTrue(inside or node.module in LIBRARY, (name, node.module))

    def test_strings_have_no_percent_sign(self):
        for name in NAMES:
            for node in ast.walk(ast.parse(source(name))):
                if isinstance(node, ast.Constant) and isinstance(node.value, str):
                    self.assertNotIn("\x25", node.value, name)


if __name__ == "__main__":
    unittest.main()
