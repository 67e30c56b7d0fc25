"""Tests of the rules for the program's files that can be read off them (L1 to L28, in part)."""

import ast
import builtins
import pathlib
import re
import unittest

FOLDER = pathlib.Path(__file__).resolve().parent.parent / "faremachines"
LIBRARY = ("heapq", "math", "itertools", "collections")
BUILTINS = (
    "len range enumerate zip min max sum abs sorted reversed int str bool list tuple dict set isinstance ord repr"
    " any all divmod pow map iter next super property staticmethod classmethod ValueError NotImplemented"
).split()
METHODS = (
    "append clear copy count endswith extend find get index insert isalnum isalpha isdigit islower isspace isupper"
    " items join keys ljust lower lstrip partition pop remove replace reverse rfind rjust rpartition rsplit rstrip"
    " setdefault split splitlines startswith strip update upper values zfill bit_length add discard sort"
).split()
DECORATORS = ("property", "staticmethod", "classmethod")
BARRED = (ast.Import, ast.AsyncFunctionDef, ast.AsyncFor, ast.AsyncWith, ast.Await, ast.Div)


# What doctest has told last stands among the builtins as _, which is none of them.
NAMES_OF_BUILTINS = [name for name in dir(builtins) if name != "_"]


def trees():
    """Return the list of all pairs of a file of the package and its tree."""
    return [(path, ast.parse(path.read_text(encoding="utf-8"))) for path in sorted(FOLDER.glob("*.py"))]


def bound_names(tree):
    """Return the list of all names that a file binds, other than by its imports."""
    names = [node.id for node in ast.walk(tree) if isinstance(node, ast.Name) and isinstance(node.ctx, ast.Store)]
    names += [node.arg for node in ast.walk(tree) if isinstance(node, ast.arg)]
    names += [node.name for node in ast.walk(tree) if isinstance(node, (ast.FunctionDef, ast.ClassDef))]
    return names


class LanguageTest(unittest.TestCase):
    def test_the_folder_holds_files_of_the_package_alone(self):
        found = [path for path in FOLDER.rglob("*") if "__pycache__" not in path.parts]
        self.assertEqual(found, [path for path in found if re.fullmatch(r"[a-z_]+\.py", path.name)])
        self.assertIn(FOLDER / "__init__.py", found)

    def test_characters_and_sizes(self):
        for path, tree in trees():
            text = path.read_text(encoding="utf-8")
            self.assertEqual(re.sub(r"[ -~\n]", "", text), "", path)
            self.assertLess(text.count("\n"), 400, path)
            self.assertEqual([line for line in text.split("\n") if len(line) > 120], [], path)
            for node in ast.walk(tree):
                if isinstance(node, ast.FunctionDef):
                    self.assertLessEqual(node.end_lineno - node.lineno + 1, 40, (path, node.name))

    def test_imports(self):
        for path, tree in trees():
            for node in ast.walk(tree):
                if isinstance(node, ast.ImportFrom):
                    self.assertIn(node, tree.body, path)
                    self.assertTrue(node.level == 0 and node.module.split(".")[0] in LIBRARY + ("faremachines",), path)
                    self.assertEqual([name for name in node.names if name.asname or name.name == "*"], [], path)

    def test_what_is_not_used_at_all(self):
        for path, tree in trees():
            found = [node for node in ast.walk(tree) if isinstance(node, BARRED)]
            self.assertEqual([(node.lineno, type(node).__name__) for node in found], [], path)
            for node in ast.walk(tree):
                if isinstance(node, ast.Constant):
                    self.assertNotIsInstance(node.value, (float, complex), path)
                    self.assertFalse(isinstance(node.value, str) and "%" in node.value, (path, node.lineno))
                if isinstance(node, (ast.FunctionDef, ast.ClassDef)):
                    for decorator in node.decorator_list:
                        self.assertIn(ast.unparse(decorator), DECORATORS, (path, node.name))

    def test_builtins_and_methods(self):
        classes = [node for _, tree in trees() for node in tree.body if isinstance(node, ast.ClassDef)]
        own = [node.name for found in classes for node in found.body if isinstance(node, ast.FunctionDef)]
        for path, tree in trees():
            for node in ast.walk(tree):
                if isinstance(node, ast.Name) and node.id in NAMES_OF_BUILTINS:
                    self.assertIn(node.id, BUILTINS, (path, node.lineno))
                if isinstance(node, ast.Call) and isinstance(node.func, ast.Attribute):
                    self.assertIn(node.func.attr, METHODS + own, (path, node.lineno))

    def test_names(self):
        for path, tree in trees():
            imported = [name.name for node in tree.body if isinstance(node, ast.ImportFrom) for name in node.names]
            for name in bound_names(tree):
                self.assertFalse(name in NAMES_OF_BUILTINS and not name.startswith("__"), (path, name))
                self.assertNotIn(name, imported, path)
                self.assertRegex(name, r"^(_?[A-Za-z][A-Za-z0-9_]*|_|__init__)$")

    def test_what_is_assigned_at_module_level(self):
        for path, tree in trees():
            bound = [node.targets[0].id for node in tree.body if isinstance(node, ast.Assign)]
            bound += [node.name for node in tree.body if isinstance(node, (ast.FunctionDef, ast.ClassDef))]
            self.assertEqual(len(bound), len(set(bound)), path)
            allowed = (ast.Expr, ast.ImportFrom, ast.FunctionDef, ast.ClassDef, ast.Assign)
            self.assertEqual([node for node in tree.body if not isinstance(node, allowed)], [], path)
            functions = []
            for node in tree.body:
                if isinstance(node, ast.FunctionDef):
                    functions.append(node.name)
                if isinstance(node, ast.Assign):
                    # A table may hold functions that are defined above it; all else in it is plain.
                    named = [part.id for part in ast.walk(node.value) if isinstance(part, ast.Name)]
                    self.assertEqual([name for name in named if name not in functions], [], path)
                    text = ast.unparse(node.value)
                    for name in named:
                        text = re.sub(rf"(?<![\w'\"]){name}(?![\w'\"])", "None", text)
                    ast.literal_eval(text)
