"""The interface's names and arguments, and what can be seen of the form of the files."""

import ast
import importlib
import inspect
import pathlib
import unittest

FOLDER = pathlib.Path(__file__).resolve().parent.parent / "spoolrounds"
FUNCTIONS = {
    "threads": {
        "is_word": ["thing"], "is_stretch": ["thing"], "is_row": ["thing"], "joined": ["row"], "yards": ["row"],
        "turned": ["row"], "parted": ["row", "at"], "yard": ["row", "at"], "find": ["row", "word", "number"],
    },
    "threadtexts": {"show_row": ["row"], "read_row": ["text"]},
    "rounds": {"is_round": ["thing"]},
    "gauges": {
        "is_gauge": ["thing"], "spot": ["gauge", "spool", "depth"], "place": ["gauge", "spot"],
        "behind": ["rounds", "steps", "gauge"], "is_even": ["rounds", "steps", "gauge"],
    },
    "lays": {"lay_of": ["rounds", "steps", "gauge"], "laid": ["lay", "row"]},
    "papers": {"is_lot": ["lay", "thing"], "shows": ["lay", "lot", "rows"]},
    "far": {
        "after": ["lay", "spot", "rounds"], "visits": ["lay", "lot", "spot", "rounds"],
        "after_paper": ["lay", "lot", "spot", "rounds"],
        "shows_after": ["lay", "lot", "spot", "rounds", "told", "rows"],
    },
    "comings": {
        "first_table": ["lay", "lot"], "table_paper": ["lay", "lot"], "shows_table": ["lay", "lot", "table", "rows"],
        "comes": ["lay", "lot", "spot"], "comes_paper": ["lay", "lot", "spot"],
        "shows_comes": ["lay", "lot", "spot", "told", "rows"], "visit": ["lay", "lot", "spot", "k"],
    },
    "rings": {
        "ring": ["lay", "spot"], "rings": ["lay"], "whole": ["lay"], "rings_paper": ["lay"],
        "shows_rings": ["lay", "told", "bases", "rows"],
    },
    "beside": {"side_by_side": ["lay", "spot"], "either_order": ["one", "other"], "done": ["lay", "other"]},
    "donepapers": {"done_paper": ["lay", "other"], "shows_done": ["lay", "other", "told", "paper"]},
    "counts": {"rounds_fit": ["lay", "sights"]},
    "fits": {"fit_papers": ["lay", "sights"], "shows_fit": ["lay", "sights", "told", "papers"]},
    "dyes": {
        "are_dyes": ["lay", "thing"], "shown": ["lay", "dyes", "spot", "rounds"], "tally": ["lay", "dyes", "spot", "rounds"],
        "moment": ["lay", "dyes", "spot", "word", "k"], "dyes_fit": ["lay", "sights"],
    },
    "standings": {
        "is_standing": ["thing"], "wound": ["standing", "steps"], "way_there": ["one", "other"], "fewest": ["one", "other"],
    },
    "papertexts": {"show_paper": ["rows"], "read_paper": ["text"]},
    "roundtexts": {"show_round": ["steps"], "read_round": ["text"]},
}
CLASSES = {
    ("rounds", "Rounds"): {
        "__init__": ["self"], "tell": ["self", "name", "steps"], "steps": ["self", "name"], "names": ["self"],
        "written": ["self", "steps"],
    },
    ("lays", "Lay"): {
        "__init__": ["self", "total", "pieces"], "pieces": ["self"], "spots": ["self"], "goes": ["self", "spot"],
        "then": ["self", "other"], "back": ["self"], "doubled": ["self"], "__eq__": ["self", "other"], "__len__": ["self"],
    },
    ("works", "Works"): {
        "__init__": ["self", "spools"], "tell": ["self", "name", "steps"], "put": ["self", "spool", "row"], "take": ["self", "spool", "many"],
        "do": ["self", "steps", "times"], "undo": ["self"], "gauge": ["self", "upto"], "yard": ["self", "spool", "depth", "upto"],
        "where": ["self", "word", "number", "upto"], "top": ["self", "spool", "many", "upto"], "deeds": ["self"], "__len__": ["self"],
    },
    ("desk", "Desk"): {"__init__": ["self"], "say": ["self", "row"]},
}
LIBRARY = ("heapq", "math", "itertools", "collections")
FREE_BEHIND_A_STAR = ("*xs", "*box.rows", "*box.inner.rows", "*(1, 2)", "*[xs, (box.rows, 1)]", "*'ab'", "**d", "**box.more")
BARRED_BEHIND_A_STAR = (
    "*f(xs)", "*box.rows()", "*f(xs).rows", "*xs[0]", "*xs[1:]", "*(xs + ys)", "*[f(x)]", "*[x for x in xs]", "*(x for x in xs)",
    "*(xs if k else ys)", "*[xs, (f(x), 1)]", "*{1: f(x)}", "**f(d)", "**d[0]", "**{'k': 1}",
)


def arguments(asked):
    return list(inspect.signature(asked).parameters)


def is_named(node):
    """Whether it is a name or an attribute off a name."""
    while isinstance(node, ast.Attribute):
        node = node.value
    return isinstance(node, ast.Name)


def may_stand_behind_a_star(node):
    """Whether it is a name, an attribute off a name, a literal, or a list, a tuple or a dict of these."""
    if isinstance(node, (ast.List, ast.Tuple)):
        return all(may_stand_behind_a_star(part) for part in node.elts)
    if isinstance(node, ast.Dict):
        return all(may_stand_behind_a_star(part) for part in [*node.keys, *node.values])
    return isinstance(node, ast.Constant) or is_named(node)


def barred_stars(tree):
    """The rows of calls behind whose stars something stands that may not stand there."""
    found = []
    for node in ast.walk(tree):
        if isinstance(node, ast.Call):
            stars = [part.value for part in node.args if isinstance(part, ast.Starred)]
            fine = all(may_stand_behind_a_star(part) for part in stars)
            if not fine or not all(is_named(part.value) for part in node.keywords if part.arg is None):
                found.append(node.lineno)
    return found


class Interface(unittest.TestCase):
    def test_functions(self):
        for name, functions in FUNCTIONS.items():
            module = importlib.import_module(f"spoolrounds.{name}")
            for function, told in functions.items():
                with self.subTest(function):
                    found = getattr(module, function)
                    self.assertEqual(arguments(found), told)
                    self.assertEqual(found.__module__, module.__name__)

    def test_classes(self):
        for (name, told), methods in CLASSES.items():
            found = getattr(importlib.import_module(f"spoolrounds.{name}"), told)
            self.assertEqual(found.__module__, f"spoolrounds.{name}")
            for method, names in methods.items():
                with self.subTest(method):
                    self.assertEqual(arguments(vars(found)[method]), names)


class Form(unittest.TestCase):
    def files(self):
        return sorted(FOLDER.rglob("*.py"))

    def test_the_folder_holds_files_of_python_alone(self):
        for path in FOLDER.rglob("*"):
            if "__pycache__" not in path.parts:
                self.assertEqual(path.suffix, ".py")

    def test_sizes_and_signs(self):
        for path in self.files():
            text = path.read_text(encoding="utf-8")
            lines = text.split("\n")
            with self.subTest(path.name):
                self.assertLessEqual(len(lines), 399)
                self.assertLessEqual(max(len(line) for line in lines), 120)
                self.assertTrue(all(sign == "\n" or " " <= sign <= "~" for sign in text))
                for node in ast.walk(ast.parse(text)):
                    if isinstance(node, ast.Constant) and isinstance(node.value, str):
                        self.assertNotIn("%", node.value)
                    if isinstance(node, ast.FunctionDef):
                        self.assertLessEqual(node.end_lineno - node.lineno + 1, 40)

    def test_imports(self):
        for path in self.files():
            for node in ast.walk(ast.parse(path.read_text(encoding="utf-8"))):
                self.assertNotIsInstance(node, ast.Import)
                if isinstance(node, ast.ImportFrom):
                    own = node.module.startswith("spoolrounds.")
                    self.assertTrue(node.level == 0 and (own or node.module in LIBRARY))

    def test_stars_of_calls(self):
        for path in self.files():
            with self.subTest(path.name):
                self.assertEqual(barred_stars(ast.parse(path.read_text(encoding="utf-8"))), [])

    def test_the_look_at_stars_itself(self):
        for text in FREE_BEHIND_A_STAR:
            self.assertEqual(barred_stars(ast.parse(f"f({text})")), [])
        for text in BARRED_BEHIND_A_STAR:
            self.assertEqual(barred_stars(ast.parse(f"f({text})")), [1])


if __name__ == "__main__":
    unittest.main()
