"""The form of the package: its files, their sizes and signs, what they import, and where the interface is defined."""

import ast
import importlib
import inspect
import pathlib
import unittest

from cuptalk import cups, live, talks

PACKAGE = pathlib.Path(__file__).resolve().parent.parent / "cuptalk"
LONGEST_LINE = 120
LONGEST_FUNCTION = 40
LONGEST_FILE = 399
LIBRARY = ("collections", "heapq", "itertools", "math")
INTERFACE = {
    talks.Talk: {
        "__init__": ["self", "size", "results", "claims"], "size": None, "results": None, "claims": None,
        "__len__": ["self"], "__add__": ["self", "other"], "__eq__": ["self", "other"],
        "__contains__": ["self", "thing"], "with_result": ["self", "one", "other"],
        "with_claim": ["self", "player", "number"],
    },
    cups.Cup: {
        "__init__": ["self", "order"], "of": ["rounds"], "order": None, "size": None, "champion": None,
        "__eq__": ["self", "other"], "__call__": ["self", "thing"], "wins": ["self", "player"],
        "conqueror": ["self", "player"], "beaten": ["self", "player"], "round_of": ["self", "one", "other"],
        "rounds": ["self"], "matches": ["self"], "talk": ["self"],
    },
    live.LiveTalk: {
        "__init__": ["self", "size"], "beat": ["self", "one", "other"], "claim": ["self", "player", "number"],
        "now": ["self"], "undo": ["self"], "mark": ["self"], "undo_to": ["self", "index"], "__len__": ["self"],
        "twin": ["self"], "refused": None,
    },
    live.QuietTalk: {
        "__init__": ["self", "size"], "beat": ["self", "one", "other"], "claim": ["self", "player", "number"],
        "twin": ["self"], "refused": None,
    },
}

FUNCTIONS = {
    "slots": {
        "obstacle": ["talk"], "shows_obstacle": ["talk", "thing"], "needs": ["talk"], "slots": ["talk"],
        "cup_for": ["talk"], "cup_with": ["talk", "player", "number"],
    },
    "wins": {
        "least_wins": ["talk", "player"], "greatest_wins": ["talk", "player"], "wins_table": ["talk"],
        "champions": ["talk"], "sure_champion": ["talk"],
    },
    "meetings": {
        "could_beat": ["talk", "one", "other"], "rounds_of": ["talk", "one", "other"], "conquerors": ["talk", "player"],
        "could_meet": ["talk", "one", "other"], "certain_results": ["talk"],
    },
    "counting": {
        "count_cups": ["size", "claims"], "nth_cup": ["size", "claims", "index"],
        "cup_index": ["size", "claims", "cup"],
    },
    "texts": {"write_talk": ["talk"], "read_talk": ["text"], "write_cup": ["cup"], "read_cup": ["text"]},
    "session": {"session": ["rows"]},
}


def sources():
    return [(path, path.read_bytes()) for path in sorted(PACKAGE.rglob("*.py"))]


class FormTest(unittest.TestCase):

    def test_the_folder_holds_nothing_but_plain_files(self):
        self.assertTrue((PACKAGE / "__init__.py").is_file())
        for path in PACKAGE.rglob("*"):
            if "__pycache__" not in path.parts:
                self.assertEqual(".py", path.suffix, path)
                self.assertEqual(path.name.lower(), path.name)
                self.assertFalse(path.name.startswith("test"), path)

    def test_signs_and_lengths(self):
        for path, data in sources():
            for sign in data:
                self.assertTrue(sign == 10 or 32 <= sign <= 126, path)
            lines = data.decode("ascii").split("\n")
            self.assertLessEqual(len(lines), LONGEST_FILE, path)
            self.assertLessEqual(max(map(len, lines)), LONGEST_LINE, path)

    def test_functions_are_short(self):
        for path, data in sources():
            for node in ast.walk(ast.parse(data)):
                if isinstance(node, ast.FunctionDef):
                    self.assertLessEqual(node.end_lineno - node.lineno + 1, LONGEST_FUNCTION, (path, node.name))

    def test_imports_name_the_file_that_defines_the_name(self):
        for path, data in sources():
            for node in ast.walk(ast.parse(data)):
                self.assertNotIsInstance(node, ast.Import, path)
                if isinstance(node, ast.ImportFrom) and node.module not in LIBRARY:
                    self.assertEqual(0, node.level, path)
                    self.assertTrue(node.module.startswith("cuptalk."), (path, node.module))
                    for alias in node.names:
                        value = getattr(importlib.import_module(node.module), alias.name)
                        self.assertEqual(node.module, getattr(value, "__module__", node.module), alias.name)

    def test_the_interface_stands_in_its_classes(self):
        for own, parts in INTERFACE.items():
            for name, parameters in parts.items():
                self.assertIn(name, vars(own))
                if parameters is None:
                    self.assertIsInstance(vars(own)[name], property)
                else:
                    signature = inspect.signature(getattr(own, name))
                    self.assertEqual(parameters, list(signature.parameters), name)
        files = ["cuptalk.talks", "cuptalk.cups", "cuptalk.live", "cuptalk.live"]
        self.assertEqual(files, [own.__module__ for own in INTERFACE])

    def test_the_functions_of_the_interface_stand_in_their_files(self):
        for name, functions in FUNCTIONS.items():
            module = importlib.import_module(f"cuptalk.{name}")
            tree = ast.parse(pathlib.Path(module.__file__).read_bytes())
            defined = [node.name for node in tree.body if isinstance(node, ast.FunctionDef)]
            for function, parameters in functions.items():
                self.assertEqual(1, defined.count(function), function)
                self.assertEqual(parameters, list(inspect.signature(getattr(module, function)).parameters), function)


if __name__ == "__main__":
    unittest.main()
