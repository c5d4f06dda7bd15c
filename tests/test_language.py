"""Some of the rules that the package's files keep to, as far as they are easily looked at."""

import ast
import builtins
import pathlib
import unittest

FOLDER = pathlib.Path(__file__).resolve().parent.parent / "graftbook"
FILES = sorted(path for path in FOLDER.iterdir() if path.name != "__pycache__")
LIBRARY = ("heapq", "math", "itertools", "collections")
CALLED = (
    "len range enumerate zip min max sum abs sorted reversed int str bool list tuple dict set isinstance ord repr"
    " any all divmod map iter next pow"
).split()


def bound_names(tree):
    for node in ast.walk(tree):
        if isinstance(node, (ast.FunctionDef, ast.ClassDef)):
            yield node.name
        elif isinstance(node, ast.arg):
            yield node.arg
        elif isinstance(node, ast.Name) and isinstance(node.ctx, ast.Store):
            yield node.id


def local_names(tree):
    """Parameters and names assigned within functions."""
    for function in ast.walk(tree):
        if isinstance(function, ast.FunctionDef):
            for node in ast.walk(function):
                if isinstance(node, ast.arg):
                    yield node.arg
                elif isinstance(node, ast.Name) and isinstance(node.ctx, ast.Store):
                    yield node.id


class Rules(unittest.TestCase):
    def trees(self):
        for path in FILES:
            yield path, ast.parse(path.read_text(encoding="utf-8"))

    def test_files(self):
        for path in FILES:
            self.assertTrue(path.is_file() and path.suffix == ".py", path)
            self.assertEqual(path.name, path.name.lower())

    def test_lines(self):
        for path in FILES:
            text = path.read_text(encoding="utf-8")
            self.assertTrue(all(sign == "\n" or " " <= sign <= "~" for sign in text), path)
            lines = text.split("\n")
            self.assertLess(len(lines), 400, path)
            self.assertTrue(all(len(line) <= 120 and line == line.rstrip() for line in lines), path)
            for node in ast.walk(ast.parse(text)):
                if isinstance(node, ast.FunctionDef):
                    self.assertLessEqual(node.end_lineno - node.lineno + 1, 40, (path, node.name))

    def test_imports_name_the_defining_file(self):
        for path, tree in self.trees():
            for node in ast.walk(tree):
                self.assertNotIsInstance(node, ast.Import, path)
                if isinstance(node, ast.ImportFrom) and node.module not in LIBRARY:
                    package, module = node.module.split(".")
                    self.assertEqual((package, node.level), ("graftbook", 0))
                    other = ast.parse((FOLDER / (module + ".py")).read_text(encoding="utf-8"))
                    defined = set(bound_names(other))
                    for alias in node.names:
                        self.assertIsNone(alias.asname)
                        self.assertIn(alias.name, defined, path)

    def test_imports_are_used_and_go_one_way(self):
        imports = {}
        for path, tree in self.trees():
            names = [alias.name for node in tree.body if isinstance(node, ast.ImportFrom) for alias in node.names]
            used = {node.id for node in ast.walk(tree) if isinstance(node, ast.Name)}
            self.assertEqual([name for name in names if name not in used], [], path)
            self.assertEqual([name for name in local_names(tree) if name in names], [], path)
            imports[path.stem] = [node.module.split(".")[-1] for node in tree.body
                                  if isinstance(node, ast.ImportFrom)]
        done = []
        while len(done) < len(imports):
            ready = [name for name in imports if name not in done and all(
                other in done or other in LIBRARY for other in imports[name])]
            self.assertTrue(ready, "two files import from each other")
            done.extend(ready)

    def test_module_level(self):
        for path, tree in self.trees():
            for node in tree.body:
                docstring = isinstance(node, ast.Expr) and isinstance(node.value, ast.Constant)
                kept = isinstance(node, (ast.ImportFrom, ast.FunctionDef, ast.ClassDef, ast.Assign))
                self.assertTrue(docstring or kept, path)

    def test_names(self):
        for path, tree in self.trees():
            for name in bound_names(tree):
                method = name.startswith("__") and name.endswith("__")
                self.assertFalse(hasattr(builtins, name) and not method, (path, name))
                self.assertTrue(method or not name.startswith("__"), (path, name))
            for node in ast.walk(tree):
                if isinstance(node, ast.Name) and hasattr(builtins, node.id):
                    known = node.id in CALLED or node.id in ("ValueError", "KeyError")
                    self.assertTrue(known, (path, node.id))

    def test_what_is_left_out(self):
        barred = (ast.Global, ast.AsyncFunctionDef, ast.Await, ast.Div)
        for path, tree in self.trees():
            for node in ast.walk(tree):
                self.assertNotIsInstance(node, barred, path)
                if isinstance(node, ast.Constant):
                    self.assertNotIsInstance(node.value, (float, complex), path)
                if isinstance(node, ast.ClassDef):
                    self.assertEqual(node.decorator_list, [], path)
                if isinstance(node, ast.ExceptHandler):
                    self.assertIsNotNone(node.type, path)

    def test_raise_creates_an_error(self):
        for path, tree in self.trees():
            for node in ast.walk(tree):
                if isinstance(node, ast.Raise) and node.exc is not None:
                    self.assertIsInstance(node.exc, ast.Call, path)
                    self.assertIsInstance(node.exc.func, ast.Name, path)
