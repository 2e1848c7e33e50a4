"""The files of the package: the interface's names, and what point 1 keeps out."""

import ast
import inspect
import unittest
from importlib import import_module
from pathlib import Path

from turnkin.house import House

PACKAGE = Path(__file__).resolve().parent.parent / "turnkin"
FILES = sorted(PACKAGE.glob("*.py"))

INTERFACE = {
    "turnkin.turnings": {
        "is_turning": ["thing", "size"], "staying": ["size"], "behind": ["one", "other"], "back": ["one"],
    },
    "turnkin.rings": {
        "rings": ["turning"], "is_even": ["turning"], "order": ["turning"], "times": ["turning", "many"],
        "text_of": ["turning"], "read_turning": ["size", "text"],
    },
    "turnkin.steps": {"made": ["size", "few", "steps"]},
    "turnkin.ways": {"rounds": ["size", "few"], "way": ["size", "few", "place", "other"]},
    "turnkin.house": {"House": ["size", "few"]},
}

HOUSE = {
    "put": ["turning"], "told": [], "levels": [], "many": [], "kept": ["level", "place"], "has": ["turning"],
    "fall": ["turning"], "shown": ["turning"], "number": ["turning"], "turning_at": ["number"], "rounds": [],
    "holds": ["other"], "joined": ["other"], "renamed": ["turning"],
}


class Interface(unittest.TestCase):
    def test_each_function_takes_the_listed_arguments(self):
        for module, functions in INTERFACE.items():
            for name, arguments in functions.items():
                with self.subTest(module=module, name=name):
                    function = getattr(import_module(module), name)
                    self.assertEqual(list(inspect.signature(function).parameters), arguments)

    def test_each_function_is_defined_in_its_file(self):
        for module, functions in INTERFACE.items():
            for name in functions:
                with self.subTest(module=module, name=name):
                    self.assertEqual(getattr(import_module(module), name).__module__, module)

    def test_the_house_defines_each_method_itself(self):
        for name, arguments in HOUSE.items():
            with self.subTest(name=name):
                parameters = inspect.signature(vars(House)[name]).parameters
                self.assertEqual(list(parameters), ["self", *arguments])

    def test_none_of_the_few_need_not_be_handed_in(self):
        self.assertIsNone(inspect.signature(House).parameters["few"].default)


class Files(unittest.TestCase):
    def test_there_are_only_python_files(self):
        found = [path for path in sorted(PACKAGE.iterdir()) if path.name != "__pycache__"]
        self.assertEqual(found, FILES)
        self.assertIn(PACKAGE / "__init__.py", FILES)

    def test_imports_reach_neither_clock_nor_chance_nor_files(self):
        for path in FILES:
            for node in ast.walk(ast.parse(path.read_text())):
                with self.subTest(file=path.name):
                    self.assertNotIsInstance(node, ast.Import)
                    if isinstance(node, ast.ImportFrom) and not node.module.startswith("turnkin."):
                        self.assertIn(node.module, ("math", "itertools", "heapq", "collections"))

    def test_files_lines_and_functions_keep_to_their_lengths(self):
        for path in FILES:
            text = path.read_text()
            with self.subTest(file=path.name):
                self.assertLessEqual(len(text.splitlines()), 399)
                self.assertLessEqual(max([len(line) for line in text.splitlines()]), 120)
                self.assertTrue(all(sign == "\n" or " " <= sign <= "~" for sign in text))
            for node in ast.walk(ast.parse(text)):
                if isinstance(node, ast.FunctionDef):
                    with self.subTest(file=path.name, function=node.name):
                        self.assertLessEqual(node.end_lineno - node.lineno + 1, 40)


if __name__ == "__main__":
    unittest.main()
