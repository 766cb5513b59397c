"""The interface's names and arguments, and what can be seen of the form of the files."""

import ast
import importlib
import inspect
import pathlib
import unittest

FOLDER = pathlib.Path(__file__).resolve().parent.parent / "spoolrounds"
FUNCTIONS = {
    "threads": {
        "is_word": ["thing"], "is_stretch": ["thing"], "is_row": ["thing"], "joined": ["row"], "yards": ["row"],
        "turned": ["row"], "parted": ["row", "at"], "yard": ["row", "at"], "find": ["row", "word", "number"],
    },
    "threadtexts": {"show_row": ["row"], "read_row": ["text"]},
    "rounds": {"is_round": ["thing"]},
}
CLASSES = {
    ("rounds", "Rounds"): {
        "__init__": ["self"], "tell": ["self", "name", "steps"], "steps": ["self", "name"], "names": ["self"],
        "written": ["self", "steps"],
    },
}
LIBRARY = ("heapq", "math", "itertools", "collections")


def arguments(asked):
    return list(inspect.signature(asked).parameters)


class Interface(unittest.TestCase):
    def test_functions(self):
        for name, functions in FUNCTIONS.items():
            module = importlib.import_module(f"spoolrounds.{name}")
            for function, told in functions.items():
                with self.subTest(function):
                    found = getattr(module, function)
                    self.assertEqual(arguments(found), told)
                    self.assertEqual(found.__module__, module.__name__)

    def test_classes(self):
        for (name, told), methods in CLASSES.items():
            found = getattr(importlib.import_module(f"spoolrounds.{name}"), told)
            self.assertEqual(found.__module__, f"spoolrounds.{name}")
            for method, names in methods.items():
                with self.subTest(method):
                    self.assertEqual(arguments(vars(found)[method]), names)


class Form(unittest.TestCase):
    def files(self):
        return sorted(FOLDER.rglob("*.py"))

    def test_the_folder_holds_files_of_python_alone(self):
        for path in FOLDER.rglob("*"):
            if "__pycache__" not in path.parts:
                self.assertEqual(path.suffix, ".py")

    def test_sizes_and_signs(self):
        for path in self.files():
            text = path.read_text(encoding="utf-8")
            lines = text.split("\n")
            with self.subTest(path.name):
                self.assertLessEqual(len(lines), 399)
                self.assertLessEqual(max(len(line) for line in lines), 120)
                self.assertTrue(all(sign == "\n" or " " <= sign <= "~" for sign in text))
                self.assertNotIn("%", text)
                for node in ast.walk(ast.parse(text)):
                    if isinstance(node, ast.FunctionDef):
                        self.assertLessEqual(node.end_lineno - node.lineno + 1, 40)

    def test_imports(self):
        for path in self.files():
            for node in ast.walk(ast.parse(path.read_text(encoding="utf-8"))):
                self.assertNotIsInstance(node, ast.Import)
                if isinstance(node, ast.ImportFrom):
                    own = node.module.startswith("spoolrounds.")
                    self.assertTrue(node.level == 0 and (own or node.module in LIBRARY))


if __name__ == "__main__":
    unittest.main()
