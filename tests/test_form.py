"""The form of the package: its files, their size and signs, and where the interface stands."""

import ast
import os
import unittest

ROOT = os.path.dirname(os.path.dirname(os.path.abspath(__file__)))
PACKAGE = os.path.join(ROOT, "liftsteps")
LIBRARY = {"heapq", "math", "itertools", "collections"}
# File, class, and what stands in the body of the class itself.
METHODS = [
    ("matrices.py", "Matrix", {
        "__init__": ["self", "rows", "bottom"], "rows": ["self"], "bottom": ["self"], "__len__": ["self"],
        "__eq__": ["self", "other"], "after": ["self", "inner"], "image": ["self", "vector"],
        "determinant": ["self"], "inverse": ["self"],
    }),
    ("chains.py", "Chain", {
        "__init__": ["self", "channels", "steps"], "channels": ["self"], "steps": ["self"], "__len__": ["self"],
        "__eq__": ["self", "other"], "at": ["self", "vector"], "path": ["self", "vector"], "inverse": ["self"],
        "followed_by": ["self", "other"], "grid": ["self"],
    }),
    ("sheets.py", "Sheet", {
        "__init__": ["self", "chain"], "chain": ["self"], "__eq__": ["self", "other"], "walk": ["self", "vector"],
        "add": ["self", "step"], "put": ["self", "number", "step"], "cut": ["self", "number"], "undo": ["self"],
        "of_text": ["cls", "text"],
    }),
]
# File, and the functions that are defined in it with these parameters.
FUNCTIONS = {
    "maps.py": {
        "linear_part": ["chain"], "periods": ["chain"], "table": ["chain"], "residue": ["chain", "vector"],
    },
    "alike.py": {"parting_vector": ["first", "second"], "are_alike": ["first", "second"]},
    "simpler.py": {
        "may_exchange": ["chain", "number"], "may_leave": ["chain", "number"], "fewest_steps": ["chain"],
        "rounded": ["chain", "number", "way"],
    },
    "ranges.py": {
        "ranges": ["chain", "box"], "ends": ["chain", "box", "channel"],
        "first_outside": ["chain", "box", "low", "high"],
    },
    "distances.py": {"distances": ["chain"], "loss": ["chain", "channel", "unit"]},
    "totals.py": {
        "sum_of": ["chain", "box", "channel"], "count_at_most": ["chain", "box", "channel", "value"],
        "nth_value": ["chain", "box", "channel", "number"],
    },
    "meetings.py": {"count_agreeing": ["first", "second", "box"], "count_kept": ["chain", "box"]},
    "rounds.py": {
        "is_turning": ["chain"], "after_rounds": ["chain", "vector", "times"], "round_of": ["chain", "vector"],
        "whole_order": ["chain"], "count_back": ["chain", "box"],
    },
    "wrapped.py": {
        "wrapped_after": ["chain", "width", "vector", "times"], "cycle_length": ["chain", "width", "vector"],
        "cycles": ["chain", "width"], "wrapped_order": ["chain", "width"], "is_harmless": ["chain", "width", "box"],
    },
    "texts.py": {"show_step": ["step"], "show_chain": ["chain"], "show_vector": ["vector"]},
    "readings.py": {"read_step": ["channels", "text"], "read_chain": ["text"], "read_vector": ["text"]},
}
ERRORS = [
    "LiftError", "InvalidMatrix", "InvalidChain", "InvalidBox", "InvalidChannel", "InvalidNumber", "InvalidVector",
    "OtherChannels", "NotTwo", "NotTurning", "Singular", "NothingToUndo", "Unreadable",
]


def files():
    return sorted(name for name in os.listdir(PACKAGE) if name != "__pycache__")


def text_of(name):
    with open(os.path.join(PACKAGE, name), encoding="utf-8") as source:
        return source.read()


def tree_of(name):
    return ast.parse(text_of(name))


def parameters(body):
    """Return the names of the parameters of each function that is defined in a body."""
    return {node.name: [one.arg for one in node.args.args] for node in body if isinstance(node, ast.FunctionDef)}


class FormTest(unittest.TestCase):

    def test_only_plain_files(self):
        self.assertIn("__init__.py", files())
        for name in files():
            self.assertRegex(name, r"^[a-z0-9_]+\.py$")

    def test_size_and_signs(self):
        for name in files():
            lines = text_of(name).split("\n")
            self.assertLessEqual(len(lines), 399, name)
            for line in lines:
                self.assertLessEqual(len(line), 120, name)
                self.assertTrue(all(" " <= sign <= "~" for sign in line), (name, line))

    def test_small_functions_without_floats(self):
        for name in files():
            for node in ast.walk(tree_of(name)):
                if isinstance(node, ast.FunctionDef):
                    self.assertLessEqual(node.end_lineno - node.lineno + 1, 40, (name, node.name))
                self.assertNotIsInstance(node, (ast.Div, ast.Global, ast.AsyncFunctionDef))
                if isinstance(node, ast.Constant):
                    self.assertNotIsInstance(node.value, float)

    def test_imports(self):
        for name in files():
            for node in ast.walk(tree_of(name)):
                self.assertNotIsInstance(node, ast.Import, name)
                if isinstance(node, ast.ImportFrom):
                    self.assertEqual(node.level, 0)
                    self.assertTrue(node.module in LIBRARY or node.module.startswith("liftsteps."), node.module)

    def test_classes_stand_where_the_interface_lists_them(self):
        found = [node.name for node in tree_of("errors.py").body if isinstance(node, ast.ClassDef)]
        self.assertEqual(sorted(found), sorted(ERRORS))
        for name, title, methods in METHODS:
            bodies = [node.body for node in tree_of(name).body if isinstance(node, ast.ClassDef) and node.name == title]
            self.assertEqual(len(bodies), 1)
            found = parameters(bodies[0])
            for method, names in methods.items():
                self.assertEqual(found.get(method), names, (title, method))

    def test_functions_stand_where_the_interface_lists_them(self):
        for name, functions in FUNCTIONS.items():
            found = parameters(tree_of(name).body)
            for function, names in functions.items():
                self.assertEqual(found.get(function), names, (name, function))


if __name__ == "__main__":
    unittest.main()
