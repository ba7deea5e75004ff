"""The rules of the language that can be told from the text of the package's files."""

import ast
import builtins
import pathlib
import unittest

PACKAGE = pathlib.Path(__file__).resolve().parent.parent / "leftmaps"
BUILTINS = set(
    "len range enumerate zip min max sum abs sorted reversed int str bool list tuple dict set frozenset isinstance ord"
    " repr any all divmod pow getattr hasattr setattr iter next super property staticmethod classmethod Exception"
    " ValueError TypeError KeyError IndexError LookupError ZeroDivisionError ArithmeticError OverflowError"
    " RuntimeError NotImplementedError AttributeError StopIteration NotImplemented".split()
)
DECORATORS = {"property", "staticmethod", "classmethod", "setter"}


def files():
    """The files of the package."""
    return [path for path in sorted(PACKAGE.rglob("*")) if path.is_file() and "__pycache__" not in path.parts]


def trees():
    """The name and the parsed text of each file."""
    return [(path.name, ast.parse(path.read_text())) for path in files()]


def bound_names(tree):
    """The names that a file gives to anything of its own."""
    names = []
    for node in ast.walk(tree):
        if isinstance(node, (ast.FunctionDef, ast.ClassDef)):
            names.append(node.name)
        elif isinstance(node, ast.arg):
            names.append(node.arg)
        elif isinstance(node, ast.Name) and not isinstance(node.ctx, ast.Load):
            names.append(node.id)
    return names


class LanguageTest(unittest.TestCase):

    def test_files(self):
        self.assertTrue((PACKAGE / "__init__.py").is_file())
        for path in files():
            self.assertEqual(path.suffix, ".py", path)
            self.assertEqual(path.name, path.name.lower())
            self.assertNotIn("test", path.name)

    def test_size_and_characters(self):
        for path in files():
            text = path.read_bytes()
            self.assertLessEqual(set(text), {10, *range(32, 127)}, path)
            lines = text.split(b"\n")
            self.assertLess(len(lines), 400, path)
            self.assertLessEqual(max(map(len, lines)), 120, path)

    def test_functions_are_small(self):
        for name, tree in trees():
            for node in ast.walk(tree):
                if isinstance(node, ast.FunctionDef):
                    self.assertLessEqual(node.end_lineno - node.lineno, 39, (name, node.name))

    def test_module_level(self):
        for name, tree in trees():
            for node in tree.body:
                kinds = (ast.ImportFrom, ast.FunctionDef, ast.ClassDef, ast.Assign, ast.Expr)
                self.assertIsInstance(node, kinds, name)
                if isinstance(node, ast.Expr):
                    self.assertIsInstance(node.value, ast.Constant, name)
                if isinstance(node, ast.Assign):
                    ast.literal_eval(node.value)

    def test_imports_name_the_file_that_defines(self):
        for name, tree in trees():
            for node in ast.walk(tree):
                self.assertNotIsInstance(node, ast.Import, name)
                if isinstance(node, ast.ImportFrom) and node.module.startswith("leftmaps"):
                    path = PACKAGE.parent / (node.module.replace(".", "/") + ".py")
                    for alias in node.names:
                        self.assertIn(alias.name, bound_names(ast.parse(path.read_text())), name)
                elif isinstance(node, ast.ImportFrom):
                    self.assertIn(node.module, ("heapq", "math", "itertools", "collections"), name)

    def test_imports_are_used_and_nothing_else_has_their_names(self):
        for name, tree in trees():
            imported = [alias.name for node in tree.body if isinstance(node, ast.ImportFrom) for alias in node.names]
            self.assertEqual(len(imported), len(set(imported)), name)
            self.assertEqual(set(imported) & set(bound_names(tree)), set(), name)
            read = {node.id for node in ast.walk(tree) if isinstance(node, ast.Name)}
            self.assertLessEqual(set(imported), read, name)

    def test_builtins(self):
        # An interactive run, doctest's too, leaves its last value in builtins as `_`, which is free.
        barred = set(dir(builtins)) - {"_"}
        for name, tree in trees():
            self.assertLessEqual(set(bound_names(tree)) & barred, set(), name)
            for node in ast.walk(tree):
                if isinstance(node, ast.Name) and node.id in barred:
                    self.assertIn(node.id, BUILTINS, (name, node.lineno))

    def test_barred_forms(self):
        barred = (ast.Global, ast.AsyncFunctionDef, ast.Await, ast.GeneratorExp, ast.Div)
        for name, tree in trees():
            for node in ast.walk(tree):
                self.assertNotIsInstance(node, barred, (name, getattr(node, "lineno", None)))
                if isinstance(node, ast.Constant):
                    self.assertNotIsInstance(node.value, (float, complex), (name, node.lineno))
                    self.assertNotIn("%", str(node.value), (name, node.lineno))

    def test_decorators(self):
        for name, tree in trees():
            for node in ast.walk(tree):
                for decorator in getattr(node, "decorator_list", []):
                    self.assertIsInstance(node, ast.FunctionDef, name)
                    word = decorator.attr if isinstance(decorator, ast.Attribute) else decorator.id
                    self.assertIn(word, DECORATORS, (name, node.name))


if __name__ == "__main__":
    unittest.main()
