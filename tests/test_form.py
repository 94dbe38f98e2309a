"""The form of the package's files, as far as a short test can see it."""

import ast
import builtins
import pathlib
import re
import unittest

FOLDER = pathlib.Path(__file__).resolve().parent.parent / "fewbounds"

BUILTINS = set("""len range enumerate zip min max sum abs sorted reversed int str bool list tuple dict set isinstance ord
repr any all divmod map iter next super property staticmethod classmethod Exception ValueError TypeError KeyError
IndexError LookupError ZeroDivisionError NotImplemented RuntimeError OverflowError""".split())

METHODS = set("""__init__ __eq__ __repr__ __str__ __len__ __iter__ __neg__ __bool__ __contains__ __getitem__
__setitem__""".split())

# Read in pieces, as no file of the package may contain the last words at all.
BARRED = re.compile(r"\b(enum|Enum|Flag|Generic|Protocol|ABC|typing|namedtuple)\b|_wall|\(type\)|Meta|metaclass=")


def files():
    return sorted(path for path in FOLDER.rglob("*") if "__pycache__" not in path.parts)


def nodes(kinds):
    """All nodes of some kinds, each with the name of its file."""
    for path in files():
        for node in ast.walk(ast.parse(path.read_text(encoding="utf-8"))):
            if isinstance(node, kinds):
                yield path.name, node


class FormTest(unittest.TestCase):
    def test_the_folder_contains_plain_files_only(self):
        for path in files():
            self.assertRegex(path.name, r"^[a-z0-9_]+\.py$")

    def test_characters_and_sizes(self):
        for path in files():
            rows = path.read_text(encoding="utf-8").split("\n")
            self.assertLessEqual(len(rows), 400, path.name)
            for at, row in enumerate(rows, 1):
                self.assertLessEqual(len(row), 120, (path.name, at))
                self.assertRegex(row, r"^[ -~]*$", (path.name, at))
                self.assertIsNone(BARRED.search(row), (path.name, at))

    def test_functions_have_at_most_40_lines(self):
        for name, node in nodes((ast.FunctionDef, ast.Lambda)):
            self.assertLessEqual(node.end_lineno - node.lineno + 1, 40, (name, node.lineno))

    def test_imports_come_from_the_package(self):
        for name, node in nodes((ast.Import, ast.ImportFrom)):
            self.assertIsInstance(node, ast.ImportFrom, name)
            self.assertEqual(node.level, 0, name)
            self.assertTrue(node.module.startswith("fewbounds."), (name, node.module))
            for each in node.names:
                self.assertIsNone(each.asname, (name, node.lineno))
                self.assertIn(each.name, defined_names(node.module), (name, node.lineno))

    def test_builtins(self):
        for name, node in nodes(ast.Name):
            if hasattr(builtins, node.id):
                self.assertIn(node.id, BUILTINS, (name, node.lineno))
                self.assertIsInstance(node.ctx, ast.Load, (name, node.lineno))
        for name, node in nodes(ast.arg):
            self.assertFalse(hasattr(builtins, node.arg), (name, node.lineno))

    def test_methods_with_two_underscores(self):
        for name, node in nodes(ast.FunctionDef):
            if node.name.startswith("__"):
                self.assertIn(node.name, METHODS, (name, node.lineno))

    def test_no_constructs_outside_the_subset(self):
        barred = (ast.Global, ast.AsyncFunctionDef, ast.Await, ast.GeneratorExp, ast.Div, ast.AnnAssign)
        for name, node in nodes(barred):
            self.fail((name, node.__class__.__name__))
        for name, node in nodes(ast.Constant):
            self.assertNotIsInstance(node.value, (float, complex), (name, node.lineno))
            if isinstance(node.value, str):
                self.assertNotIn("%", node.value, (name, node.lineno))

    def test_a_class_with_getitem_says_how_it_is_iterated_over(self):
        for name, node in nodes(ast.ClassDef):
            methods = [part.name for part in node.body if isinstance(part, ast.FunctionDef)]
            if "__getitem__" in methods:
                self.assertIn("__iter__", methods, (name, node.name))

    def test_is_stands_beside_none_true_and_false(self):
        for name, node in nodes(ast.Compare):
            for sign, value in zip(node.ops, node.comparators):
                if isinstance(sign, (ast.Is, ast.IsNot)):
                    self.assertIsInstance(value, ast.Constant, (name, node.lineno))


def defined_names(module):
    """The names that the file of a module binds itself."""
    path = FOLDER.parent.joinpath(*module.split(".")).with_suffix(".py")
    names = set()
    for node in ast.parse(path.read_text(encoding="utf-8")).body:
        if isinstance(node, (ast.FunctionDef, ast.ClassDef)):
            names.add(node.name)
        elif isinstance(node, ast.Assign):
            names.update(target.id for target in node.targets)
    return names


if __name__ == "__main__":
    unittest.main()
