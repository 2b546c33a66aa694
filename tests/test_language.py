"""Whether the files of the package keep to those rules of the language that are easily broken and easily seen."""

import ast
import pathlib
import unittest

FOLDER = pathlib.Path(__file__).resolve().parent.parent / "shovefloors"
FILES = sorted(FOLDER.glob("*.py"))
LIBRARY = {"heapq", "math", "itertools", "collections"}
BARRED = (ast.Global, ast.AsyncFunctionDef, ast.Await, ast.Div)


def told(path):
    """The text and the tree of a file."""
    text = path.read_bytes().decode("ascii")
    return text, ast.parse(text)


class TestLanguage(unittest.TestCase):
    def test_folder_holds_plain_files_alone(self):
        found = [path.name for path in FOLDER.iterdir() if path.name != "__pycache__"]
        self.assertEqual(sorted(found), [path.name for path in FILES])
        for name in found:
            self.assertRegex(name, r"\A[a-z_][a-z0-9_]*\.py\Z")

    def test_characters_and_lengths(self):
        for path in FILES:
            text, _ = told(path)
            lines = text.split("\n")
            self.assertLessEqual(len(lines), 400, path.name)
            for number, line in enumerate(lines, 1):
                self.assertLessEqual(len(line), 120, (path.name, number))
                self.assertRegex(line, r"\A[ -~]*\Z", (path.name, number))

    def test_functions_are_small(self):
        for path in FILES:
            for node in ast.walk(told(path)[1]):
                if isinstance(node, ast.FunctionDef):
                    self.assertLessEqual(node.end_lineno - node.lineno + 1, 40, (path.name, node.name))

    def test_imports_are_from_the_package_by_full_names(self):
        for path in FILES:
            for node in ast.walk(told(path)[1]):
                self.assertNotIsInstance(node, ast.Import, path.name)
                if isinstance(node, ast.ImportFrom):
                    self.assertEqual(node.level, 0, path.name)
                    self.assertIn(node.module.split(".")[0], LIBRARY | {"shovefloors"}, path.name)
                    self.assertNotIn("*", [name.name for name in node.names], path.name)

    def test_module_level_is_plain(self):
        plain = (ast.FunctionDef, ast.ClassDef, ast.ImportFrom, ast.Assign)
        for path in FILES:
            for at, node in enumerate(told(path)[1].body):
                docstring = at == 0 and isinstance(node, ast.Expr) and isinstance(node.value, ast.Constant)
                self.assertTrue(docstring or isinstance(node, plain), (path.name, node.lineno))

    def test_nothing_barred_stands_anywhere(self):
        for path in FILES:
            for node in ast.walk(told(path)[1]):
                self.assertNotIsInstance(node, BARRED, path.name)
                if isinstance(node, ast.Constant):
                    self.assertNotIsInstance(node.value, (float, complex), (path.name, node.lineno))
                if isinstance(node, ast.Constant) and isinstance(node.value, str):
                    self.assertNotIn(chr(37), node.value, (path.name, node.lineno))
                if isinstance(node, ast.ClassDef):
                    self.assertEqual(node.decorator_list, [], (path.name, node.lineno))
