"""What can be seen of the rules for the program's text without much effort."""

import ast
import builtins
import re
import unittest
import warnings
from pathlib import Path

FOLDER = Path(__file__).resolve().parent.parent / "accordions"
FILES = sorted(FOLDER.rglob("*.py"))
LIBRARY = {"heapq", "math", "itertools", "collections", "__future__"}
BUILTINS = set("""len range enumerate zip min max sum abs sorted reversed int str bool bytes list tuple dict set frozenset
isinstance ord repr any all divmod pow getattr hasattr setattr Exception ValueError TypeError KeyError IndexError
LookupError ZeroDivisionError ArithmeticError OverflowError RuntimeError NotImplementedError AttributeError
StopIteration NotImplemented iter next map type object super property staticmethod classmethod""".split())
FORBIDDEN = (ast.Global, ast.AsyncFunctionDef, ast.Await, ast.Import, ast.TypeIgnore)
METHODS = set("""append clear copy count endswith extend find get index insert isalnum isalpha isdigit islower isspace
isupper items join keys ljust lower lstrip partition pop remove replace reverse rfind rjust rpartition rsplit rstrip
setdefault split splitlines startswith strip update upper values zfill bit_length""".split())
DOUBLE = {"__init__", "__eq__", "__len__", "__repr__", "__str__"}


def trees():
    for file in FILES:
        yield file, ast.parse(file.read_text(encoding="utf-8"))


def module_name(file):
    parts = file.relative_to(FOLDER.parent).with_suffix("").parts
    return ".".join(parts[:-1] if parts[-1] == "__init__" else parts)


def bound_names(tree):
    """The names that are bound at module level."""
    names = []
    for node in tree.body:
        if isinstance(node, (ast.FunctionDef, ast.ClassDef)):
            names.append(node.name)
        elif isinstance(node, ast.ImportFrom):
            names += [one.asname or one.name for one in node.names]
        elif isinstance(node, ast.Assign):
            names += [target.id for target in node.targets]
    return names


def defined_names(tree):
    return [node.name for node in tree.body if isinstance(node, (ast.FunctionDef, ast.ClassDef))] + [
        target.id for node in tree.body if isinstance(node, ast.Assign) for target in node.targets]


class LanguageTest(unittest.TestCase):
    def test_files(self):
        self.assertIn(FOLDER / "__init__.py", FILES)
        for path in FOLDER.rglob("*"):
            if path.name != "__pycache__" and path.suffix != ".pyc":
                self.assertTrue(path.is_dir() or re.fullmatch(r"[a-z_][a-z0-9_]*\.py", path.name), path)
                self.assertFalse(path.name.startswith(("law_", "test")), path)

    def test_sizes_and_characters(self):
        for file in FILES:
            text = file.read_text(encoding="utf-8")
            self.assertLessEqual(len(text.splitlines()), 399, file)
            self.assertTrue(all(sign == "\n" or " " <= sign <= "~" for sign in text), file)
            for line in text.split("\n"):
                self.assertLessEqual(len(line), 120, line)
                self.assertEqual(line, line.rstrip())

    def test_functions_are_short(self):
        for file, tree in trees():
            for node in ast.walk(tree):
                if isinstance(node, ast.FunctionDef):
                    self.assertLessEqual(node.end_lineno - node.lineno + 1, 40, (file, node.name))

    def test_python_gives_no_warning(self):
        with warnings.catch_warnings():
            warnings.simplefilter("error")
            for file in FILES:
                compile(file.read_text(encoding="utf-8"), str(file), "exec")

    def test_module_level(self):
        kinds = (ast.Expr, ast.ImportFrom, ast.FunctionDef, ast.ClassDef, ast.Assign)
        for file, tree in trees():
            names = bound_names(tree)
            self.assertEqual(len(names), len(set(names)), file)
            for node in tree.body:
                self.assertIsInstance(node, kinds, (file, node.lineno))
                if isinstance(node, ast.Expr):
                    self.assertIs(node, tree.body[0])

    def test_imports(self):
        defined = {module_name(file): defined_names(tree) for file, tree in trees()}
        for file, tree in trees():
            for node in ast.walk(tree):
                self.assertNotIsInstance(node, FORBIDDEN, file)
                if isinstance(node, ast.ImportFrom):
                    self.assertIn(node, tree.body)
                    self.assertEqual(node.level, 0)
                    if node.module not in LIBRARY:
                        self.assertLessEqual({one.name for one in node.names}, set(defined[node.module]))

    def test_no_variable_has_the_name_of_an_import(self):
        for file, tree in trees():
            imported = {one.asname or one.name for node in tree.body if isinstance(node, ast.ImportFrom)
                        for one in node.names}
            for node in ast.walk(tree):
                if isinstance(node, ast.arg):
                    self.assertNotIn(node.arg, imported, (file, node.lineno))
                if isinstance(node, ast.Name) and not isinstance(node.ctx, ast.Load):
                    self.assertNotIn(node.id, imported, (file, node.lineno))

    def test_what_the_library_gives_is_only_called(self):
        for file, tree in trees():
            given = {one.name for node in tree.body if isinstance(node, ast.ImportFrom) and node.module in LIBRARY
                     for one in node.names}
            calls = [node for node in ast.walk(tree) if isinstance(node, ast.Call)
                     and isinstance(node.func, ast.Name) and node.func.id in given]
            self.assertFalse([node for node in calls if node.keywords], file)
            found = [node for node in ast.walk(tree) if isinstance(node, ast.Name) and node.id in given]
            self.assertEqual(sorted(map(id, found)), sorted(id(node.func) for node in calls), file)

    def test_no_circle_of_imports(self):
        needs = {}
        for file, tree in trees():
            needs[module_name(file)] = {node.module for node in tree.body
                                        if isinstance(node, ast.ImportFrom) and node.module not in LIBRARY}
        while needs:
            free = [name for name in needs if not needs[name] & set(needs)]
            self.assertTrue(free, needs)
            needs = {name: needs[name] for name in needs if name not in free}

    def test_names(self):
        for file, tree in trees():
            for node in ast.walk(tree):
                if isinstance(node, ast.Name):
                    if isinstance(node.ctx, ast.Load):
                        allowed = not hasattr(builtins, node.id) or node.id in BUILTINS
                        self.assertTrue(allowed, (file, node.id))
                        self.assertNotEqual(node.id, "_")
                    else:
                        self.assertFalse(hasattr(builtins, node.id), (file, node.id))
                if isinstance(node, ast.arg):
                    self.assertFalse(hasattr(builtins, node.arg), (file, node.arg))
                if isinstance(node, ast.FunctionDef) and node not in tree.body:
                    continue
                if isinstance(node, (ast.FunctionDef, ast.ClassDef)):
                    self.assertFalse(hasattr(builtins, node.name), (file, node.name))
                    self.assertIsNotNone(ast.get_docstring(node), (file, node.name))

    def test_strings_and_numbers(self):
        for file, tree in trees():
            for node in ast.walk(tree):
                if isinstance(node, ast.Constant):
                    self.assertNotIsInstance(node.value, (float, complex), file)
                    if isinstance(node.value, str):
                        self.assertNotIn("%", node.value, file)
                self.assertNotIsInstance(getattr(node, "op", None), (ast.Div, ast.MatMult), file)

    def test_is_stands_beside_none_true_and_false_and_between_classes(self):
        for file, tree in trees():
            for node in ast.walk(tree):
                if isinstance(node, ast.Compare) and any(isinstance(op, (ast.Is, ast.IsNot)) for op in node.ops):
                    sides = [node.left, *node.comparators]
                    plain = [side for side in sides if isinstance(side, ast.Constant)
                             and (side.value is None or isinstance(side.value, bool))]
                    kinds = [side for side in sides if isinstance(side, ast.Call) and ast.unparse(side.func) == "type"]
                    self.assertTrue(plain or kinds == sides, (file, node.lineno))

    def test_no_generator_expression_and_no_try(self):
        # A class has `__eq__`, so `any`, `all` and their kin take lists, and little may stand in a `try`.
        for file, tree in trees():
            for node in ast.walk(tree):
                self.assertNotIsInstance(node, (ast.GeneratorExp, ast.Try, ast.Lambda, ast.NamedExpr), file)

    def test_sets_are_made_on_the_spot(self):
        for file, tree in trees():
            inner = {id(argument) for node in ast.walk(tree) if isinstance(node, ast.Call)
                     and ast.unparse(node.func) in ("sorted", "len") for argument in node.args}
            for node in ast.walk(tree):
                self.assertNotIsInstance(node, (ast.Set, ast.SetComp), file)
                if isinstance(node, ast.Call) and ast.unparse(node.func) == "set":
                    self.assertIn(id(node), inner, (file, node.lineno))

    def test_only_listed_methods_are_called(self):
        own = {node.name for _, tree in trees() for node in ast.walk(tree) if isinstance(node, ast.FunctionDef)}
        for file, tree in trees():
            for node in ast.walk(tree):
                if isinstance(node, ast.Call) and isinstance(node.func, ast.Attribute):
                    self.assertIn(node.func.attr, METHODS | own, (file, node.lineno))


def methods_in(tree):
    """The classes of a file with their methods."""
    return [(kind, node) for kind in tree.body if isinstance(kind, ast.ClassDef)
            for node in kind.body if isinstance(node, ast.FunctionDef)]


def methods():
    for file, tree in trees():
        for kind, node in methods_in(tree):
            yield file, kind, node


class ClassesTest(unittest.TestCase):
    def test_bodies(self):
        for file, tree in trees():
            for kind in tree.body:
                if isinstance(kind, ast.ClassDef):
                    self.assertEqual([kind.decorator_list, kind.keywords], [[], []])
                    names = [node.name for node in kind.body if isinstance(node, ast.FunctionDef)]
                    self.assertEqual(len(names), len(set(names)), (file, kind.name))
                    for node in kind.body:
                        self.assertIsInstance(node, (ast.FunctionDef, ast.Assign, ast.Expr))

    def test_decorators_and_names(self):
        for file, kind, node in methods():
            found = [ast.unparse(one) for one in node.decorator_list]
            self.assertIn(found, [[], ["property"], ["staticmethod"], ["classmethod"]], (file, node.name))
            self.assertTrue(node.name in DOUBLE or not node.name.startswith("__"), (file, node.name))
            self.assertNotIn(node.name, METHODS, (file, node.name))
            if found == ["property"]:
                self.assertEqual(len(node.args.args), 1)

    def test_names_of_methods_properties_and_attributes_differ(self):
        plain = {node.name for _, _, node in methods() if not node.decorator_list}
        others = {node.name for _, _, node in methods() if node.decorator_list}
        stored = {node.attr for _, tree in trees() for node in ast.walk(tree)
                  if isinstance(node, ast.Attribute) and isinstance(node.ctx, ast.Store)}
        self.assertFalse(plain & others)
        self.assertFalse(stored & (plain | others))
        self.assertFalse(stored & METHODS)

    def test_super_calls_plain_methods(self):
        for file, tree in trees():
            uses = [node for node in ast.walk(tree) if isinstance(node, ast.Name) and node.id == "super"]
            found = []
            for _, node in methods_in(tree):
                if not node.decorator_list:
                    for call in ast.walk(node):
                        if isinstance(call, ast.Call) and ast.unparse(call.func).startswith("super()."):
                            name = call.func.attr
                            self.assertEqual(name, node.name, file)
                            self.assertTrue(name == "__init__" or "__" not in name, (file, name))
                            found.append(call.func.value.func)
            self.assertEqual(sorted(map(id, uses)), sorted(map(id, found)), file)

    def test_equality_and_length(self):
        for file, kind, node in methods():
            if node.name == "__eq__":
                self.assertEqual(len(node.body), 1, (file, kind.name))
                self.assertTrue(ast.unparse(node.body[0]).startswith(f"return isinstance(other, {kind.name}) and "))
            if node.name == "__len__":
                self.assertEqual(len(node.body), 1, (file, kind.name))
                self.assertTrue(ast.unparse(node.body[0]).startswith("return len("))

    def test_properties_change_nothing(self):
        for file, kind, node in methods():
            if [ast.unparse(one) for one in node.decorator_list] == ["property"]:
                self.assertEqual([type(row) for row in node.body], [ast.Expr, ast.Return], (file, node.name))


if __name__ == "__main__":
    unittest.main()
