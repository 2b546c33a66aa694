"""Whether the files of the package keep to those rules of the language that are easily broken and easily seen."""

import ast
import builtins
import pathlib
import unittest

FOLDER = pathlib.Path(__file__).resolve().parent.parent / "shovefloors"
FILES = sorted(FOLDER.glob("*.py"))
LIBRARY = {"heapq", "math", "itertools", "collections"}
BARRED = (ast.Global, ast.AsyncFunctionDef, ast.Await, ast.Div, ast.GeneratorExp)
BUILTINS = {
    "len", "range", "enumerate", "zip", "min", "max", "sum", "abs", "sorted", "reversed", "int", "str", "bool", "list",
    "tuple", "dict", "set", "isinstance", "ord", "repr", "any", "all", "divmod", "super", "property", "staticmethod",
    "Exception", "ValueError", "TypeError", "KeyError", "IndexError", "LookupError", "ArithmeticError"}
# Methods of builtin values that change what they are called of, or are not allowed where a class has `__eq__`.
NO_METHODS = {"sort", "format", "format_map", "encode", "decode", "union", "intersection", "difference"}


def told(path):
    """The text and the tree of a file."""
    text = path.read_bytes().decode("ascii")
    return text, ast.parse(text)


def bound_names(tree):
    """The names of imports and classes, and apart from them those of functions, parameters and variables."""
    fixed, others = set(), set()
    for node in ast.walk(tree):
        if isinstance(node, ast.ImportFrom):
            fixed |= {name.asname or name.name for name in node.names}
        if isinstance(node, ast.ClassDef):
            fixed.add(node.name)
        if isinstance(node, ast.FunctionDef):
            others.add(node.name)
        if isinstance(node, ast.arg):
            others.add(node.arg)
        if isinstance(node, ast.Name) and not isinstance(node.ctx, ast.Load):
            others.add(node.id)
    return fixed, others


def methods_of(tree):
    """The names of all methods."""
    return {node.name for kind in ast.walk(tree) if isinstance(kind, ast.ClassDef)
            for node in kind.body if isinstance(node, ast.FunctionDef)}


def imported_modules(tree):
    """The modules of the package from which a file imports."""
    return {node.module.split(".")[1] for node in ast.walk(tree)
            if isinstance(node, ast.ImportFrom) and node.module.startswith("shovefloors.")}


class TestLanguage(unittest.TestCase):
    def test_folder_holds_plain_files_alone(self):
        found = [path.name for path in FOLDER.iterdir() if path.name != "__pycache__"]
        self.assertEqual(sorted(found), [path.name for path in FILES])
        for name in found:
            self.assertRegex(name, r"\A[a-z_][a-z0-9_]*\.py\Z")

    def test_characters_and_lengths(self):
        for path in FILES:
            text, _ = told(path)
            lines = text.split("\n")
            self.assertLessEqual(len(lines), 400, path.name)
            for number, line in enumerate(lines, 1):
                self.assertLessEqual(len(line), 120, (path.name, number))
                self.assertRegex(line, r"\A[ -~]*\Z", (path.name, number))

    def test_functions_are_small(self):
        for path in FILES:
            for node in ast.walk(told(path)[1]):
                if isinstance(node, ast.FunctionDef):
                    self.assertLessEqual(node.end_lineno - node.lineno + 1, 40, (path.name, node.name))

    def test_imports_are_from_the_package_by_full_names(self):
        for path in FILES:
            for node in ast.walk(told(path)[1]):
                self.assertNotIsInstance(node, ast.Import, path.name)
                if isinstance(node, ast.ImportFrom):
                    self.assertEqual(node.level, 0, path.name)
                    self.assertIn(node.module.split(".")[0], LIBRARY | {"shovefloors"}, path.name)
                    self.assertNotIn("*", [name.name for name in node.names], path.name)

    def test_module_level_is_plain(self):
        plain = (ast.FunctionDef, ast.ClassDef, ast.ImportFrom, ast.Assign)
        for path in FILES:
            for at, node in enumerate(told(path)[1].body):
                docstring = at == 0 and isinstance(node, ast.Expr) and isinstance(node.value, ast.Constant)
                self.assertTrue(docstring or isinstance(node, plain), (path.name, node.lineno))

    def test_nothing_barred_stands_anywhere(self):
        for path in FILES:
            for node in ast.walk(told(path)[1]):
                self.assertNotIsInstance(node, BARRED, path.name)
                if isinstance(node, ast.Constant):
                    self.assertNotIsInstance(node.value, (float, complex), (path.name, node.lineno))
                if isinstance(node, ast.Constant) and isinstance(node.value, str):
                    self.assertNotIn(chr(37), node.value, (path.name, node.lineno))
                if isinstance(node, ast.ClassDef):
                    self.assertEqual(node.decorator_list, [], (path.name, node.lineno))

    def test_names_are_bound_once_and_are_no_builtins(self):
        for path in FILES:
            fixed, others = bound_names(told(path)[1])
            self.assertEqual(fixed & others, set(), path.name)
            self.assertEqual((fixed | others) & set(dir(builtins)), set(), path.name)

    def test_only_some_builtins_are_used(self):
        for path in FILES:
            tree = told(path)[1]
            fixed, others = bound_names(tree)
            used = {node.id for node in ast.walk(tree) if isinstance(node, ast.Name)}
            self.assertLessEqual(used - fixed - others, BUILTINS, path.name)

    def test_methods_that_are_not_called(self):
        for path in FILES:
            for node in ast.walk(told(path)[1]):
                if isinstance(node, ast.Attribute):
                    self.assertNotIn(node.attr, NO_METHODS, (path.name, node.lineno))

    def test_no_two_underscores_but_for_methods(self):
        for path in FILES:
            tree = told(path)[1]
            fixed, others = bound_names(tree)
            for name in fixed | (others - methods_of(tree)):
                self.assertFalse(name.startswith("__"), (path.name, name))

    def test_attributes_that_are_assigned_are_no_methods(self):
        trees = [told(path)[1] for path in FILES]
        methods = {name for tree in trees for name in methods_of(tree)}
        for path, tree in zip(FILES, trees):
            for node in ast.walk(tree):
                if isinstance(node, ast.Attribute) and not isinstance(node.ctx, ast.Load):
                    self.assertNotIn(node.attr, methods, (path.name, node.lineno))

    def test_no_method_is_read_off_a_class(self):
        trees = [told(path)[1] for path in FILES]
        kinds = {node.name for tree in trees for node in ast.walk(tree) if isinstance(node, ast.ClassDef)}
        for path, tree in zip(FILES, trees):
            for node in ast.walk(tree):
                if isinstance(node, ast.Attribute) and isinstance(node.value, ast.Name):
                    self.assertNotIn(node.value.id, kinds, (path.name, node.lineno))

    def test_what_stands_beside_is(self):
        for path in FILES:
            for node in ast.walk(told(path)[1]):
                if isinstance(node, ast.Compare) and isinstance(node.ops[0], (ast.Is, ast.IsNot)):
                    plain = isinstance(node.comparators[0], ast.Constant)
                    self.assertTrue(plain or ast.unparse(node.left) == "self", (path.name, node.lineno))

    def test_only_own_errors_are_caught(self):
        own = {node.name for node in ast.walk(told(FOLDER / "errors.py")[1]) if isinstance(node, ast.ClassDef)}
        for path in FILES:
            for node in ast.walk(told(path)[1]):
                if isinstance(node, ast.ExceptHandler):
                    self.assertIn(ast.unparse(node.type), own, (path.name, node.lineno))

    def test_nothing_is_done_but_assigned_where_all_must_be_as_it_was(self):
        for path in FILES:
            for node in ast.walk(told(path)[1]):
                rows = node.finalbody if isinstance(node, ast.Try) else []
                if isinstance(node, ast.FunctionDef) and node.name == "__exit__":
                    rows = node.body
                for row in rows:
                    self.assertIsInstance(row, ast.Assign, (path.name, row.lineno))
                    self.assertIsInstance(row.value, (ast.Name, ast.Attribute), (path.name, row.lineno))

    def test_nothing_imported_is_left_unused(self):
        for path in FILES:
            tree = told(path)[1]
            imported = {name.name for node in ast.walk(tree) if isinstance(node, ast.ImportFrom)
                        for name in node.names}
            used = {node.id for node in ast.walk(tree) if isinstance(node, ast.Name)}
            self.assertLessEqual(imported, used, path.name)

    def test_imports_name_the_file_that_defines(self):
        trees = {path.stem: told(path)[1] for path in FILES}
        for name, tree in trees.items():
            for node in ast.walk(tree):
                if isinstance(node, ast.ImportFrom) and node.module.startswith("shovefloors."):
                    source = trees[node.module.split(".")[1]]
                    defined = {part.name for part in source.body if isinstance(part, (ast.FunctionDef, ast.ClassDef))}
                    for part in source.body:
                        if isinstance(part, ast.Assign):
                            defined |= {target.id for target in part.targets}
                    self.assertLessEqual({part.name for part in node.names}, defined, name)

    def test_no_files_import_from_each_other(self):
        ahead = {path.stem: imported_modules(told(path)[1]) for path in FILES}
        while ahead:
            free = [name for name, needed in ahead.items() if not needed & set(ahead)]
            self.assertNotEqual(free, [], sorted(ahead))
            ahead = {name: needed for name, needed in ahead.items() if name not in free}
