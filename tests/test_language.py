"""That the package's files keep to the small part of Python they are written in.

Only what a look at single nodes and lines can see is held here.
"""

import ast
import builtins
import os
import re
import unittest

import sharedtable

FOLDER = os.path.dirname(sharedtable.__file__)
NODES = (
    "Module Import ImportFrom alias FunctionDef arguments arg ClassDef Lambda Assign AugAssign If "
    "While For Return Break Continue Pass Raise Try ExceptHandler Expr Constant List Tuple Dict Set "
    "Name Attribute Subscript Slice Load Store BinOp UnaryOp BoolOp Compare IfExp Call keyword "
    "ListComp comprehension JoinedStr FormattedValue Add Sub Mult FloorDiv Mod Pow LShift RShift "
    "BitOr BitXor BitAnd Invert Not USub UAdd And Or Eq NotEq Lt LtE Gt GtE Is IsNot In NotIn").split()
BUILT_IN = (
    "len range enumerate zip min max sum abs sorted reversed int str bool list tuple dict set "
    "frozenset isinstance ord repr any all divmod Exception ValueError TypeError KeyError IndexError "
    "LookupError ZeroDivisionError ArithmeticError OverflowError RuntimeError NotImplementedError "
    "AttributeError StopIteration").split()
METHODS = (
    "append clear copy count endswith extend find get index insert isalnum isalpha isdigit islower "
    "isspace isupper items join keys ljust lower lstrip partition pop remove replace reverse rfind "
    "rjust rpartition rsplit rstrip setdefault split splitlines startswith strip update upper values "
    "zfill bit_length").split()
UNUSED_WORDS = (
    "type typing typing_extensions enum Enum IntEnum StrEnum Flag IntFlag Generic Protocol ABC "
    "ABCMeta namedtuple NamedTuple TypedDict TYPE_CHECKING abstractmethod").split()


def package_files():
    return sorted(name for name in os.listdir(FOLDER) if name != "__pycache__")


def read(name):
    with open(os.path.join(FOLDER, name), encoding="utf-8", newline="") as file:
        return file.read()


def trees():
    return [(name, ast.parse(read(name))) for name in package_files()]


def bound_names(tree):
    names = set()
    for node in ast.walk(tree):
        if isinstance(node, (ast.FunctionDef, ast.ClassDef)):
            names.add(node.name)
        elif isinstance(node, ast.arg):
            names.add(node.arg)
        elif isinstance(node, ast.alias):
            names.add(node.name)
        elif isinstance(node, ast.Name) and isinstance(node.ctx, ast.Store):
            names.add(node.id)
        elif isinstance(node, ast.ExceptHandler) and node.name:
            names.add(node.name)
    return names


class Language(unittest.TestCase):
    def test_files(self):
        for name in package_files():
            self.assertRegex(name, r"^([a-z][a-z0-9_]*|__init__|__main__)\.py$")

    def test_lines_and_signs(self):
        for name in package_files():
            text = read(name)
            self.assertIsNone(re.search(r"[^ -~\n]", text), name)
            lines = text.split("\n")
            self.assertLessEqual(len(lines), 399, name)
            self.assertLessEqual(max(map(len, lines)), 120, name)
            for word in re.findall(r"\w+", text):
                self.assertNotIn(word, UNUSED_WORDS, name)

    def test_nodes(self):
        for name, tree in trees():
            for node in ast.walk(tree):
                kind = node.__class__.__name__
                self.assertIn(kind, NODES, (name, getattr(node, "lineno", 0)))

    def test_functions(self):
        for name, tree in trees():
            for node in ast.walk(tree):
                if isinstance(node, ast.FunctionDef):
                    where = (name, node.name)
                    self.assertLessEqual(node.end_lineno - node.lineno + 1, 40, where)
                    self.assertEqual(node.decorator_list, [], where)
                    given = node.args
                    self.assertFalse(given.vararg or given.kwarg or given.kwonlyargs, where)
                if isinstance(node, ast.Assign):
                    self.assertEqual(len(node.targets), 1, (name, node.lineno))
                if isinstance(node, (ast.For, ast.While)):
                    self.assertEqual(node.orelse, [], (name, node.lineno))
                if isinstance(node, ast.comprehension):
                    self.assertLessEqual(len(node.ifs), 1, name)
                if isinstance(node, ast.ListComp):
                    self.assertEqual(len(node.generators), 1, (name, node.lineno))

    def test_imports(self):
        for name, tree in trees():
            for node in ast.walk(tree):
                self.assertNotIsInstance(node, ast.Import, name)
                if isinstance(node, ast.ImportFrom):
                    self.assertIn(node, tree.body, name)
                    self.assertEqual(node.level, 0, name)
                    self.assertTrue(node.module.startswith("sharedtable."), name)
                    held = ast.parse(read(node.module.split(".")[1] + ".py"))
                    own = [part.name for part in held.body if hasattr(part, "name")]
                    for drawn in node.names:
                        self.assertIn(drawn.name, own, name)
                        self.assertIsNone(drawn.asname, name)

    def test_no_two_files_draw_from_one_another(self):
        drawn = {}
        for name, tree in trees():
            parts = [node.module for node in tree.body if isinstance(node, ast.ImportFrom)]
            drawn[name] = {part.split(".")[1] + ".py" for part in parts}
        while drawn:
            free = [name for name in drawn if not drawn[name] & set(drawn)]
            self.assertTrue(free, drawn)
            for name in free:
                drawn.pop(name)

    def test_names(self):
        for name, tree in trees():
            own = bound_names(tree)
            for bound in own - {"__init__"}:
                self.assertRegex(bound, r"^[A-Za-z][A-Za-z0-9_]*$", name)
                self.assertNotIn(bound, dir(builtins), name)
            for node in ast.walk(tree):
                if isinstance(node, ast.Name):
                    self.assertIn(node.id, own | set(BUILT_IN), (name, node.lineno))

    def test_methods(self):
        own = {part.name for name, tree in trees() for part in ast.walk(tree)
               if isinstance(part, ast.FunctionDef)}
        for name, tree in trees():
            for node in ast.walk(tree):
                if isinstance(node, ast.Call) and isinstance(node.func, ast.Attribute):
                    self.assertIn(node.func.attr, own | set(METHODS), (name, node.lineno))


if __name__ == "__main__":
    unittest.main()
