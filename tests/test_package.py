"""The interface as it is listed, and the rules on the package's files."""

import ast
import pathlib
import unittest

PACKAGE = pathlib.Path(__file__).resolve().parent.parent / "firmroll"

CLASSES = {
    "errors.py": {
        "RollError": ("ValueError", None),
        "NoMembers": ("RollError", ["self", "what"]),
        "NoDeed": ("RollError", ["self", "what"]),
        "TwoFaced": ("RollError", ["self", "what"]),
        "NoMember": ("RollError", ["self", "what"]),
        "NoKind": ("RollError", ["self", "what"]),
        "NoMark": ("RollError", ["self", "what"]),
        "NoUse": ("RollError", ["self", "what"]),
        "NoText": ("RollError", ["self", "what"]),
    },
    "rolls.py": {
        "Roll": (None, ["self", "members"]),
    },
}

METHODS = {
    "__len__": [], "__eq__": ["other"], "__ne__": ["other"],
    "members": [], "hear": ["deed"], "deeds": [], "waiting": [], "join": ["other"],
    "note": ["member"], "next_deed": ["member", "what"], "stands": ["mark"],
    "has": ["member", "power", "kind"], "is_settled": ["mark"], "waits_for": ["mark"],
    "text": [], "firm_text": [], "firm": [], "firm_waits": ["mark"], "paper": ["mark"],
    "paper_holds": ["mark", "rows"],
}

FUNCTIONS = {
    "deeds.py": {
        "look": ["members", "deed"],
        "mark": ["deed"],
        "size": ["deed"],
        "has_seen": ["deed", "mark"],
        "in_order": ["deeds"],
    },
    "texts.py": {
        "show_deed": ["deed"],
        "show_roll": ["roll"],
    },
    "readings.py": {
        "read_deed": ["text"],
        "read_roll": ["text"],
    },
}


def tree_of(name):
    return ast.parse((PACKAGE / name).read_text(encoding="utf-8"))


def parameters(function):
    return [one.arg for one in function.args.args]


def own_init(found):
    for part in found.body:
        if isinstance(part, ast.FunctionDef) and part.name == "__init__":
            return parameters(part)
    return None


class TestInterface(unittest.TestCase):
    def test_functions_are_defined_in_their_files(self):
        for name, listed in FUNCTIONS.items():
            found = {part.name: parameters(part) for part in tree_of(name).body
                     if isinstance(part, ast.FunctionDef)}
            for function, expected in listed.items():
                self.assertEqual(found.get(function), expected, (name, function))

    def test_classes_are_defined_in_their_files(self):
        for name, listed in CLASSES.items():
            found = {part.name: part for part in tree_of(name).body
                     if isinstance(part, ast.ClassDef)}
            for word, (base, expected) in listed.items():
                bases = [one.id for one in found[word].bases]
                self.assertEqual(bases, [base] if base else [], word)
                self.assertEqual(own_init(found[word]), expected, word)

    def test_methods_are_defined_in_the_class_itself(self):
        roll = [part for part in tree_of("rolls.py").body if isinstance(part, ast.ClassDef)
                and part.name == "Roll"][0]
        found = {part.name: parameters(part) for part in roll.body
                 if isinstance(part, ast.FunctionDef)}
        for method, expected in METHODS.items():
            self.assertEqual(found.get(method), ["self"] + expected, method)


class TestFiles(unittest.TestCase):
    def test_the_folder_holds_python_files_alone(self):
        for path in PACKAGE.rglob("*"):
            if "__pycache__" not in path.parts and path.is_file():
                self.assertEqual(path.suffix, ".py", path)
        self.assertTrue((PACKAGE / "__init__.py").is_file())

    def test_sizes_and_signs(self):
        for path in PACKAGE.rglob("*.py"):
            text = path.read_bytes()
            self.assertTrue(all(sign == 10 or 32 <= sign <= 126 for sign in text), path)
            lines = text.decode("ascii").split("\n")
            self.assertLessEqual(len(lines), 400, path)
            self.assertLessEqual(max(len(line) for line in lines), 120, path)
            for part in ast.walk(ast.parse(text)):
                if isinstance(part, ast.FunctionDef):
                    self.assertLessEqual(part.end_lineno - part.lineno + 1, 40, part.name)

    def test_imports_are_from_the_package_alone(self):
        library = ("heapq", "math", "itertools", "collections", "__future__")
        for path in PACKAGE.rglob("*.py"):
            for part in ast.walk(ast.parse(path.read_bytes())):
                self.assertNotIsInstance(part, ast.Import, path)
                if isinstance(part, ast.ImportFrom):
                    self.assertEqual(part.level, 0, path)
                    own = part.module.startswith("firmroll.")
                    self.assertTrue(own or part.module in library, part.module)


if __name__ == "__main__":
    unittest.main()
