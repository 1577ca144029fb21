"""What can be seen of the rules for the program's text without much effort."""

import ast
import builtins
import re
import unittest
import warnings
from pathlib import Path

FOLDER = Path(__file__).resolve().parent.parent / "accordions"
FILES = sorted(FOLDER.rglob("*.py"))
LIBRARY = {"heapq", "math", "itertools", "collections", "__future__"}
BUILTINS = set("""len range enumerate zip min max sum abs sorted reversed int str bool bytes list tuple dict set frozenset
isinstance ord repr any all divmod pow getattr hasattr setattr Exception ValueError TypeError KeyError IndexError
LookupError ZeroDivisionError ArithmeticError OverflowError RuntimeError NotImplementedError AttributeError
StopIteration NotImplemented iter next map type object super property staticmethod classmethod""".split())
FORBIDDEN = (ast.Global, ast.AsyncFunctionDef, ast.Await, ast.Import, ast.TypeIgnore)


def trees():
    for file in FILES:
        yield file, ast.parse(file.read_text(encoding="utf-8"))


def module_name(file):
    parts = file.relative_to(FOLDER.parent).with_suffix("").parts
    return ".".join(parts[:-1] if parts[-1] == "__init__" else parts)


def bound_names(tree):
    """The names that are bound at module level."""
    names = []
    for node in tree.body:
        if isinstance(node, (ast.FunctionDef, ast.ClassDef)):
            names.append(node.name)
        elif isinstance(node, ast.ImportFrom):
            names += [one.asname or one.name for one in node.names]
        elif isinstance(node, ast.Assign):
            names += [target.id for target in node.targets]
    return names


def defined_names(tree):
    return [node.name for node in tree.body if isinstance(node, (ast.FunctionDef, ast.ClassDef))] + [
        target.id for node in tree.body if isinstance(node, ast.Assign) for target in node.targets]


class LanguageTest(unittest.TestCase):
    def test_files(self):
        self.assertIn(FOLDER / "__init__.py", FILES)
        for path in FOLDER.rglob("*"):
            if path.name != "__pycache__" and path.suffix != ".pyc":
                self.assertTrue(path.is_dir() or re.fullmatch(r"[a-z_][a-z0-9_]*\.py", path.name), path)
                self.assertFalse(path.name.startswith(("law_", "test")), path)

    def test_sizes_and_characters(self):
        for file in FILES:
            text = file.read_text(encoding="utf-8")
            self.assertLessEqual(len(text.splitlines()), 399, file)
            self.assertTrue(all(sign == "\n" or " " <= sign <= "~" for sign in text), file)
            for line in text.split("\n"):
                self.assertLessEqual(len(line), 120, line)
                self.assertEqual(line, line.rstrip())

    def test_functions_are_short(self):
        for file, tree in trees():
            for node in ast.walk(tree):
                if isinstance(node, ast.FunctionDef):
                    self.assertLessEqual(node.end_lineno - node.lineno + 1, 40, (file, node.name))

    def test_python_gives_no_warning(self):
        with warnings.catch_warnings():
            warnings.simplefilter("error")
            for file in FILES:
                compile(file.read_text(encoding="utf-8"), str(file), "exec")

    def test_module_level(self):
        kinds = (ast.Expr, ast.ImportFrom, ast.FunctionDef, ast.ClassDef, ast.Assign)
        for file, tree in trees():
            names = bound_names(tree)
            self.assertEqual(len(names), len(set(names)), file)
            for node in tree.body:
                self.assertIsInstance(node, kinds, (file, node.lineno))
                if isinstance(node, ast.Expr):
                    self.assertIs(node, tree.body[0])

    def test_imports(self):
        defined = {module_name(file): defined_names(tree) for file, tree in trees()}
        for file, tree in trees():
            for node in ast.walk(tree):
                self.assertNotIsInstance(node, FORBIDDEN, file)
                if isinstance(node, ast.ImportFrom):
                    self.assertIn(node, tree.body)
                    self.assertEqual(node.level, 0)
                    if node.module not in LIBRARY:
                        self.assertLessEqual({one.name for one in node.names}, set(defined[node.module]))

    def test_no_variable_has_the_name_of_an_import(self):
        for file, tree in trees():
            imported = {one.asname or one.name for node in tree.body if isinstance(node, ast.ImportFrom)
                        for one in node.names}
            for node in ast.walk(tree):
                if isinstance(node, ast.arg):
                    self.assertNotIn(node.arg, imported, (file, node.lineno))
                if isinstance(node, ast.Name) and not isinstance(node.ctx, ast.Load):
                    self.assertNotIn(node.id, imported, (file, node.lineno))

    def test_what_the_library_gives_is_only_called(self):
        for file, tree in trees():
            given = {one.name for node in tree.body if isinstance(node, ast.ImportFrom) and node.module in LIBRARY
                     for one in node.names}
            calls = [node for node in ast.walk(tree) if isinstance(node, ast.Call)
                     and isinstance(node.func, ast.Name) and node.func.id in given]
            self.assertFalse([node for node in calls if node.keywords], file)
            found = [node for node in ast.walk(tree) if isinstance(node, ast.Name) and node.id in given]
            self.assertEqual(sorted(map(id, found)), sorted(id(node.func) for node in calls), file)

    def test_no_circle_of_imports(self):
        needs = {}
        for file, tree in trees():
            needs[module_name(file)] = {node.module for node in tree.body
                                        if isinstance(node, ast.ImportFrom) and node.module not in LIBRARY}
        while needs:
            free = [name for name in needs if not needs[name] & set(needs)]
            self.assertTrue(free, needs)
            needs = {name: needs[name] for name in needs if name not in free}

    def test_names(self):
        for file, tree in trees():
            for node in ast.walk(tree):
                if isinstance(node, ast.Name):
                    if isinstance(node.ctx, ast.Load):
                        allowed = not hasattr(builtins, node.id) or node.id in BUILTINS
                        self.assertTrue(allowed, (file, node.id))
                        self.assertNotEqual(node.id, "_")
                    else:
                        self.assertFalse(hasattr(builtins, node.id), (file, node.id))
                if isinstance(node, ast.arg):
                    self.assertFalse(hasattr(builtins, node.arg), (file, node.arg))
                if isinstance(node, ast.FunctionDef) and node not in tree.body:
                    continue
                if isinstance(node, (ast.FunctionDef, ast.ClassDef)):
                    self.assertFalse(hasattr(builtins, node.name), (file, node.name))
                    self.assertIsNotNone(ast.get_docstring(node), (file, node.name))

    def test_strings_and_numbers(self):
        for file, tree in trees():
            for node in ast.walk(tree):
                if isinstance(node, ast.Constant):
                    self.assertNotIsInstance(node.value, (float, complex), file)
                    if isinstance(node.value, str):
                        self.assertNotIn("%", node.value, file)
                self.assertNotIsInstance(getattr(node, "op", None), (ast.Div, ast.MatMult), file)

    def test_is_stands_beside_none_true_and_false(self):
        for file, tree in trees():
            for node in ast.walk(tree):
                if isinstance(node, ast.Compare) and any(isinstance(op, (ast.Is, ast.IsNot)) for op in node.ops):
                    sides = [node.left, *node.comparators]
                    plain = [side for side in sides if isinstance(side, ast.Constant)
                             and (side.value is None or isinstance(side.value, bool))]
                    self.assertTrue(plain, (file, node.lineno))


if __name__ == "__main__":
    unittest.main()
