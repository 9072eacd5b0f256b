"""What the interface lists is there, defined in the file under which it is listed."""

import ast
import importlib
import inspect
import pathlib
import unittest

# What the rules of the language let a file import beside the package.
LIBRARY = ("heapq", "math", "itertools", "collections")

PACKAGE = pathlib.Path(__file__).resolve().parent.parent / "floormeet"

FUNCTIONS = {
    "houses": {"is_house": ["thing"], "size": ["house"]},
    "standings": {
        "is_standing": ["house", "thing"],
        "meetings": ["house", "standing"],
        "behind": ["house", "standing", "meeting"],
        "is_rest": ["house", "standing"],
        "how_long": ["house", "standing"],
        "who_rests": ["house", "standing"],
        "standing_of": ["house", "company"],
        "together": ["house", "one", "other"],
    },
    "runs": {
        "run": ["house", "standing", "row"],
        "first_run": ["house", "standing"],
        "ends": ["house", "standing"],
        "ways": ["house", "standing"],
    },
    "fair": {
        "is_fair": ["house"],
        "paper": ["house"],
        "is_paper": ["house", "thing"],
        "floor_kinds": ["house"],
        "certain_floors": ["house"],
    },
    "ends": {
        "end_of": ["house", "standing"],
        "comings": ["house", "standing"],
    },
    "states": {
        "states": ["house"],
        "least_company": ["house", "state"],
        "counted": ["house", "many", "state"],
        "round_of": ["house", "company"],
    },
    "ahead": {
        "ahead_of": ["house", "state", "number"],
        "between": ["house", "one", "other"],
    },
    "alike": {
        "least_unlike": ["house", "other"],
        "look_alike": ["house", "seen", "floor"],
        "telling": ["house", "seen", "floor", "a", "b"],
    },
    "building": {
        "over": ["house", "other"],
        "beside": ["house", "other"],
        "called": ["house", "callings"],
        "sorter": ["m", "floors"],
        "counter": ["m", "floors"],
        "semigroups": ["m"],
        "mends": ["house"],
    },
    "party": {"party_of": ["house", "log"]},
    "texts": {"show_house": ["house"], "read_house": ["text"]},
}
CLASSES = {
    "errors": (
        "MeetError NoHouse NoFloor NoNumber NoStanding NoCompany NoMeeting NotFair NotSure TooMany NoState "
        "NotLike NoSeen NoName Taken Full Nothing NoLog NoText NoRow"
    ).split(),
    "party": ["Party"],
    "desk": ["Desk"],
}
METHODS = {
    ("party", "Party"): {
        "__init__": ["self", "house"],
        "come": ["self", "name", "number", "floor"],
        "meet": ["self", "name", "other"],
        "settle": ["self"],
        "back": ["self"],
        "where": ["self", "name"],
        "standing": ["self"],
        "rest_names": ["self"],
        "log": ["self"],
        "__len__": ["self"],
    },
    ("desk", "Desk"): {"__init__": ["self"], "say": ["self", "row"]},
}


def defined(file, kind):
    tree = ast.parse((PACKAGE / f"{file}.py").read_text())
    return [part.name for part in tree.body if isinstance(part, kind)]


class Interface(unittest.TestCase):
    def test_functions(self):
        for file, functions in FUNCTIONS.items():
            module = importlib.import_module(f"floormeet.{file}")
            for name, arguments in functions.items():
                self.assertIn(name, defined(file, ast.FunctionDef))
                told = inspect.signature(getattr(module, name))
                self.assertEqual(list(told.parameters), arguments)

    def test_classes(self):
        for file, classes in CLASSES.items():
            module = importlib.import_module(f"floormeet.{file}")
            for name in classes:
                self.assertIn(name, defined(file, ast.ClassDef))
                self.assertTrue(inspect.isclass(getattr(module, name)))

    def test_methods(self):
        for (file, name), methods in METHODS.items():
            told = getattr(importlib.import_module(f"floormeet.{file}"), name)
            for method, arguments in methods.items():
                self.assertIn(method, vars(told))
                self.assertEqual(list(inspect.signature(vars(told)[method]).parameters), arguments)
        floor = inspect.signature(vars(importlib.import_module("floormeet.party").Party)["come"]).parameters["floor"]
        self.assertIs(floor.kind, inspect.Parameter.KEYWORD_ONLY)
        self.assertEqual(floor.default, 0)


class Form(unittest.TestCase):
    """The rules of the language that can be counted: files, sizes, signs, imports."""

    def files(self):
        return [(path, path.read_text()) for path in sorted(PACKAGE.glob("*.py"))]

    def test_sizes_and_signs(self):
        for path, text in self.files():
            lines = text.splitlines()
            self.assertLessEqual(len(lines), 399, path)
            for line in lines:
                self.assertLessEqual(len(line), 120, path)
            for sign in text:
                self.assertTrue(sign == "\n" or " " <= sign <= "~", (path, sign))

    def test_functions_are_small(self):
        for path, text in self.files():
            for part in ast.walk(ast.parse(text)):
                if isinstance(part, ast.FunctionDef):
                    self.assertLessEqual(part.end_lineno - part.lineno + 1, 40, part.name)

    def test_imports_are_of_the_package(self):
        for path, text in self.files():
            for part in ast.walk(ast.parse(text)):
                self.assertNotIsInstance(part, ast.Import)
                if isinstance(part, ast.ImportFrom):
                    self.assertEqual(part.level, 0)
                    own = part.module.startswith("floormeet.")
                    self.assertTrue(own or part.module in LIBRARY, part.module)

    def test_the_folder_holds_files_of_the_package_alone(self):
        names = [path.name for path in PACKAGE.iterdir() if path.name != "__pycache__"]
        self.assertEqual([name for name in names if not name.endswith(".py")], [])
        self.assertIn("__init__.py", names)


if __name__ == "__main__":
    unittest.main()
