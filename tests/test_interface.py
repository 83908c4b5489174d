"""The interface: each name with its arguments, defined in the file that lists it."""

import ast
import pathlib
import unittest

PACKAGE = pathlib.Path(__file__).resolve().parent.parent / "numbergaps"

FUNCTIONS = {
    "states.py": {"state_of": ["office", "number"], "gaps": ["office"]},
    "audit.py": {
        "bounds": ["office", "counted"], "worlds": ["office", "counted"],
        "sure": ["office", "number", "counted"],
    },
    "boxes.py": {"tight": ["box"], "is_settled": ["box"], "behind": ["box", "look"]},
    "looks.py": {"least": ["box"], "walked": ["plan", "world"]},
    "papers.py": {"paper": ["box"], "shows": ["box", "depth", "rows"]},
    "books.py": {"played": ["top", "desks", "book"]},
}
METHODS = {
    "office.py": {"Office": {
        "__init__": ["self", "top", "desks"], "lend": ["self", "desk", "many"],
        "report": ["self", "desk", "words"], "back": ["self", "desk"], "stop": ["self", "desk"],
        "found": ["self", "number"], "settle": ["self", "desk", "many"],
        "open_numbers": ["self", "desk"], "rest": ["self", "desk"],
    }},
}


def parsed(name):
    return ast.parse((PACKAGE / name).read_text(encoding="ascii"))


def arguments(body):
    """The functions that stand straight in this body, with the names of their arguments."""
    return {
        part.name: [one.arg for one in part.args.args]
        for part in body if isinstance(part, ast.FunctionDef)
    }


class Interface(unittest.TestCase):
    def test_functions(self):
        for name, functions in FUNCTIONS.items():
            told = arguments(parsed(name).body)
            for function, wanted in functions.items():
                self.assertEqual(told.get(function), wanted, (name, function))

    def test_methods(self):
        for name, classes in METHODS.items():
            bodies = {part.name: part.body for part in parsed(name).body if isinstance(part, ast.ClassDef)}
            for owner, methods in classes.items():
                told = arguments(bodies[owner])
                for method, wanted in methods.items():
                    self.assertEqual(told.get(method), wanted, (name, owner, method))


if __name__ == "__main__":
    unittest.main()
