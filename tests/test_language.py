"""Holds the package to the rules of LANGUAGE.md that a reading of its syntax tree can see."""

import ast
import builtins
import re
import unittest
from pathlib import Path

PACKAGE = Path(__file__).resolve().parent.parent / "endrooms"
FILES = sorted(PACKAGE.rglob("*.py"))

OWN_NAMES = """len range enumerate zip min max sum abs sorted reversed int str bool list tuple dict set frozenset
isinstance ord repr any all divmod Exception ValueError TypeError KeyError IndexError LookupError ZeroDivisionError
ArithmeticError OverflowError RuntimeError NotImplementedError StopIteration""".split()
OWN_METHODS = """append clear copy count endswith extend find get index insert isalnum isalpha isdigit islower isspace
isupper items join keys ljust lower lstrip partition pop remove replace reverse rfind rjust rpartition rsplit rstrip
setdefault split splitlines startswith strip update upper values zfill bit_length""".split()
NODES = """Module ImportFrom alias FunctionDef ClassDef arguments arg Assign AugAssign If While For Return Break Continue
Pass Raise Try ExceptHandler Expr Call keyword Name Load Store Constant List Tuple Dict Attribute Subscript Slice
ListComp comprehension Lambda IfExp BoolOp And Or UnaryOp Not USub UAdd Invert BinOp Add Sub Mult FloorDiv Mod Pow
BitAnd BitOr BitXor LShift RShift Compare Eq NotEq Lt LtE Gt GtE Is IsNot In NotIn JoinedStr FormattedValue""".split()
TWO_UNDERSCORES = ("__init__", "__eq__", "__repr__", "__str__", "__len__")
WORDS = re.compile(r"\b(type|typing|typing_extensions|enum|Enum|IntEnum|StrEnum|Flag|IntFlag|Generic|Protocol|ABC|ABCMeta"
                   r"|namedtuple|NamedTuple|TypedDict|TYPE_CHECKING|abstractmethod)\b|dataclass|overload|contextmanager")
NOT_USED = """register mro elements open input version_info with_traceback add_note attrgetter breakpoint builtins compile
copyright credits delattr dir eval exec exit gc getattr globals hasattr help id importlib license locals methodcaller os
quit setattr super type vars sys""".split()


def trees():
    return [(path, ast.parse(path.read_text(encoding="utf-8"))) for path in FILES]


def names_bound(tree):
    for node in ast.walk(tree):
        if isinstance(node, (ast.FunctionDef, ast.ClassDef)):
            yield node.name
        elif isinstance(node, ast.arg):
            yield node.arg
        elif isinstance(node, (ast.Name, ast.Attribute)) and isinstance(node.ctx, ast.Store):
            yield node.id if isinstance(node, ast.Name) else node.attr


def names_at_top(tree):
    for node in tree.body:
        if isinstance(node, (ast.FunctionDef, ast.ClassDef)):
            yield node.name
        elif isinstance(node, ast.Assign):
            yield node.targets[0].id


class Language(unittest.TestCase):
    def test_files(self):
        self.assertIn(PACKAGE / "__init__.py", FILES)
        for path in PACKAGE.rglob("*"):
            if "__pycache__" not in path.parts:
                self.assertRegex(path.name, r"^(__init__|[a-z][a-z0-9_]*)\.py$")

    def test_signs_and_sizes(self):
        for path in FILES:
            text = path.read_text(encoding="utf-8")
            self.assertRegex(text, r"\A[ -~\n]*\Z", path)
            self.assertLessEqual(len(text.splitlines()), 400, path)
            self.assertLessEqual(max(len(line) for line in text.splitlines()), 120, path)
            self.assertIsNone(WORDS.search(text), path)

    def test_functions_are_short_and_plain(self):
        for path, tree in trees():
            for node in ast.walk(tree):
                if isinstance(node, ast.FunctionDef):
                    where = f"{path.name} {node.name}"
                    self.assertLessEqual(node.end_lineno - node.lineno + 1, 40, where)
                    self.assertEqual(node.decorator_list, [], where)
                    given = node.args
                    self.assertEqual((given.vararg, given.kwarg, given.kwonlyargs, given.posonlyargs),
                                     (None, None, [], []), where)

    def test_only_plain_forms(self):
        for path, tree in trees():
            for node in ast.walk(tree):
                where = f"{path.name} line {getattr(node, 'lineno', '?')}"
                self.assertIn(type(node).__name__, NODES, where)
                if isinstance(node, ast.Constant):
                    self.assertIn(type(node.value), (int, str, bool, type(None)), where)
                if isinstance(node, (ast.For, ast.While)):
                    self.assertEqual(node.orelse, [], where)
                if isinstance(node, ast.Assign):
                    self.assertEqual(len(node.targets), 1, where)
                if isinstance(node, ast.ListComp):
                    self.assertEqual(len(node.generators), 1, where)
                    self.assertLessEqual(len(node.generators[0].ifs), 1, where)
                if isinstance(node, ast.Expr) and node != tree.body[0]:
                    self.assertIsInstance(node.value, ast.Call, where)
                if isinstance(node, ast.BinOp) and isinstance(node.op, ast.Pow):
                    self.assertIsInstance(node.right, ast.Constant, where)
                if isinstance(node, ast.Constant) and isinstance(node.value, str):
                    self.assertNotIn("%", node.value, where)
                if isinstance(node, ast.Compare) and isinstance(node.ops[0], (ast.Is, ast.IsNot)):
                    self.assertIsInstance(node.comparators[0], ast.Constant, where)
                if isinstance(node, ast.Try):
                    self.assertEqual(node.finalbody, [], where)

    def test_names(self):
        for path, tree in trees():
            for name in names_bound(tree):
                if name not in TWO_UNDERSCORES:
                    self.assertRegex(name, r"^[A-Za-z][A-Za-z0-9_]*$", path)
                    self.assertNotIn(name, dir(builtins), path)
                    self.assertNotIn(name, NOT_USED, path)

    def test_names_of_python(self):
        for path, tree in trees():
            bound = set(names_bound(tree))
            for node in ast.walk(tree):
                if isinstance(node, ast.ImportFrom):
                    bound |= {alias.name for alias in node.names}
            for node in ast.walk(tree):
                if isinstance(node, ast.Name) and isinstance(node.ctx, ast.Load):
                    self.assertIn(node.id, bound | set(OWN_NAMES), f"{path.name} line {node.lineno}")

    def test_methods_and_fields(self):
        own = set()
        for path, tree in trees():
            own |= set(names_bound(tree))
        for path, tree in trees():
            for node in ast.walk(tree):
                if isinstance(node, ast.Attribute) and node.attr != "__init__":
                    self.assertIn(node.attr, own | set(OWN_METHODS), f"{path.name} line {node.lineno}")

    def test_imports(self):
        drawn = {}
        tops = {"endrooms." + path.stem: set(names_at_top(tree)) for path, tree in trees()}
        for path, tree in trees():
            imports = [node for node in ast.walk(tree) if isinstance(node, ast.ImportFrom)]
            self.assertEqual([node for node in imports if node not in tree.body], [], path)
            for node in imports:
                self.assertEqual(node.level, 0, path)
                self.assertIn(node.module, tops, path)
                for alias in node.names:
                    self.assertIn(alias.name, tops[node.module], path)
            drawn["endrooms." + path.stem] = {node.module for node in imports}
        while drawn:
            ready = [name for name in drawn if not drawn[name] & set(drawn)]
            self.assertNotEqual(ready, [], f"files that draw from one another: {sorted(drawn)}")
            drawn = {name: drawn[name] for name in drawn if name not in ready}

    def test_no_local_is_called_like_a_class_or_an_import(self):
        for path, tree in trees():
            taken = {node.name for node in tree.body if isinstance(node, ast.ClassDef)}
            for node in tree.body:
                if isinstance(node, ast.ImportFrom):
                    taken |= {alias.name for alias in node.names}
            for node in ast.walk(tree):
                if isinstance(node, ast.arg):
                    self.assertNotIn(node.arg, taken, path)
                if isinstance(node, ast.Name) and isinstance(node.ctx, ast.Store):
                    self.assertNotIn(node.id, taken, path)


if __name__ == "__main__":
    unittest.main()
