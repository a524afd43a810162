"""The package keeps to the part of Python that LANGUAGE.md tells, as far as a look at each file can see it."""

import ast
import builtins
import functools
import os
import re
import unittest

from helper import ROOT

PACKAGE = os.path.join(ROOT, "ownroom")
NODES = """Module FunctionDef ClassDef arguments arg Import ImportFrom alias Assign AugAssign If While For Return Break
    Continue Pass Raise Try ExceptHandler Expr Constant List Tuple Dict Set BinOp UnaryOp BoolOp Compare IfExp Call
    keyword Attribute Subscript Slice ListComp comprehension JoinedStr FormattedValue Lambda Name Load Store Add Sub
    Mult FloorDiv Mod Pow BitAnd BitOr BitXor Invert LShift RShift USub UAdd Not And Or Eq NotEq Lt LtE Gt GtE Is
    IsNot In NotIn""".split()
OWN_NAMES = """len range enumerate zip min max sum abs sorted reversed int str bool list tuple dict set frozenset
    isinstance ord repr any all divmod Exception ValueError TypeError KeyError IndexError LookupError
    ZeroDivisionError ArithmeticError OverflowError RuntimeError NotImplementedError AttributeError
    StopIteration""".split()
METHODS = """append clear copy count endswith extend find get index insert isalnum isalpha isdigit islower isspace
    isupper items join keys ljust lower lstrip partition pop remove replace reverse rfind rjust rpartition rsplit
    rstrip setdefault split splitlines startswith strip update upper values zfill bit_length""".split()
VALUES = "count index title find get join lower upper split strip copy add".split()
DUNDERS = "__init__ __eq__ __repr__ __str__ __len__".split()
UNUSED = "register mro elements open input version_info with_traceback add_note format format_map".split()
WORDS = re.compile(r"\b(type|typing|typing_extensions|enum|Enum|IntEnum|StrEnum|Flag|IntFlag|Generic|Protocol|ABC"
                   r"|ABCMeta|namedtuple|NamedTuple|TypedDict|TYPE_CHECKING|abstractmethod)\b"
                   r"|dataclass|overload|contextmanager")
PLAIN = re.compile(r"^[A-Za-z][A-Za-z0-9_]*$")


def package_files():
    return sorted(name for name in os.listdir(PACKAGE) if name != "__pycache__")


def text_of(name):
    with open(os.path.join(PACKAGE, name), encoding="utf-8", newline="") as file:
        return file.read()


@functools.cache
def trees():
    return [(name, ast.parse(text_of(name))) for name in package_files()]


@functools.cache
def nodes(*classes):
    return [(name, node) for name, tree in trees() for node in ast.walk(tree) if isinstance(node, classes)]


def names_bound(node):
    if isinstance(node, ast.Name):
        return [node.id] if isinstance(node.ctx, ast.Store) else []
    if isinstance(node, ast.arg):
        return [node.arg]
    if isinstance(node, ast.alias):
        return [node.asname or node.name.split(".")[-1]]
    if isinstance(node, ast.ExceptHandler):
        return [node.name] if node.name else []
    return [node.name]


@functools.cache
def own_methods():
    return {part.name for name, node in nodes(ast.ClassDef) for part in node.body if isinstance(part, ast.FunctionDef)}


@functools.cache
def own_values():
    return {node.attr for name, node in nodes(ast.Attribute) if isinstance(node.ctx, ast.Store)}


class TestFiles(unittest.TestCase):
    def test_files_and_signs(self):
        self.assertIn("__init__.py", package_files())
        for name in package_files():
            with self.subTest(name):
                self.assertRegex(name, r"^(__init__|[a-z][a-z0-9_]*)\.py$")
                self.assertNotRegex(name, r"^(test|tests|testing|test_.*|site|conftest)\.py$")
                self.assertFalse(name != "__init__.py" and hasattr(builtins, name[:-3]))
                self.assertRegex(text_of(name), r"\A[ -~\n]*\Z")
                self.assertIsNone(WORDS.search(text_of(name)))

    def test_sizes(self):
        for name in package_files():
            lines = text_of(name).split("\n")
            self.assertLessEqual(len(lines), 400, name)
            self.assertLessEqual(max(len(line) for line in lines), 120, name)
        for name, node in nodes(ast.FunctionDef):
            self.assertLessEqual(node.end_lineno - node.lineno + 1, 40, f"{name}: {node.name}")


class TestForms(unittest.TestCase):
    def test_nodes(self):
        for name, node in nodes(ast.AST):
            self.assertIn(type(node).__name__, NODES, f"{name}:{getattr(node, 'lineno', '')}")

    def test_tops(self):
        for name, tree in trees():
            for k, part in enumerate(tree.body):
                if isinstance(part, ast.Expr):
                    self.assertTrue(k == 0 and isinstance(part.value, ast.Constant), f"{name}:{part.lineno}")
                else:
                    self.assertIsInstance(part, (ast.ImportFrom, ast.FunctionDef, ast.ClassDef, ast.Assign), name)

    def test_imports(self):
        for name, node in nodes(ast.Import, ast.ImportFrom):
            self.assertIsInstance(node, ast.ImportFrom, name)
            self.assertEqual(node.level, 0, name)
            self.assertTrue(node.module.startswith("ownroom."), name)
            defining = ast.parse(text_of(node.module.split(".")[1] + ".py"))
            tops = [n for part in defining.body if not isinstance(part, (ast.Expr, ast.ImportFrom))
                    for n in ([part.name] if hasattr(part, "name") else [part.targets[0].id])]
            for alias in node.names:
                self.assertIn(alias.name, tops, f"{name}:{node.lineno}")

    def test_no_two_files_draw_from_one_another(self):
        drawn = {name: set() for name in package_files()}
        for name, node in nodes(ast.ImportFrom):
            drawn[name].add(node.module.split(".")[1] + ".py")
        while drawn:
            ready = [name for name in drawn if not drawn[name] & set(drawn)]
            self.assertTrue(ready, f"these draw from one another: {sorted(drawn)}")
            for name in ready:
                del drawn[name]

    def test_defs_and_classes(self):
        for name, node in nodes(ast.FunctionDef):
            given = node.args
            self.assertFalse(given.vararg or given.kwarg or given.kwonlyargs or given.posonlyargs, node.name)
            self.assertFalse(node.decorator_list, node.name)
        for name, node in nodes(ast.ClassDef):
            self.assertLessEqual(len(node.bases), 1, node.name)
            self.assertFalse(node.decorator_list or node.keywords, node.name)
            for part in node.body:
                self.assertIsInstance(part, (ast.FunctionDef, ast.Pass), node.name)

    def test_statements(self):
        for name, node in nodes(ast.Expr):
            is_call = isinstance(node.value, ast.Call)
            is_docstring = node.lineno == 1 and isinstance(node.value, ast.Constant)
            self.assertTrue(is_call or is_docstring, f"{name}:{node.lineno}")
        for name, node in nodes(ast.Assign):
            self.assertEqual(len(node.targets), 1, f"{name}:{node.lineno}")
        for name, node in nodes(ast.For, ast.While):
            self.assertEqual(node.orelse, [], f"{name}:{node.lineno}")
        for name, node in nodes(ast.Try):
            self.assertEqual(node.finalbody, [], f"{name}:{node.lineno}")

    def test_values(self):
        for name, node in nodes(ast.Constant):
            self.assertIsInstance(node.value, (int, str, type(None)), f"{name}:{node.lineno}")
            self.assertNotIn("%", str(node.value), f"{name}:{node.lineno}")
        for name, node in nodes(ast.Compare):
            sides = [node.left] + node.comparators
            for k, sign in enumerate(node.ops):
                if isinstance(sign, (ast.Is, ast.IsNot)):
                    beside = [s.value for s in sides[k:k + 2] if isinstance(s, ast.Constant)]
                    self.assertTrue([v for v in beside if v is None or isinstance(v, bool)], f"{name}:{node.lineno}")
        for name, node in nodes(ast.BinOp):
            if isinstance(node.op, ast.Pow):
                self.assertIsInstance(node.right, ast.Constant, f"{name}:{node.lineno}")
        for name, node in nodes(ast.FormattedValue):
            self.assertIsInstance(node.value, ast.Name, f"{name}:{node.lineno}")


class TestNames(unittest.TestCase):
    def test_bound_names(self):
        for name, node in nodes(ast.Name, ast.arg, ast.alias, ast.ExceptHandler, ast.FunctionDef, ast.ClassDef):
            for bound in names_bound(node):
                if bound in DUNDERS:
                    continue
                self.assertRegex(bound, PLAIN, name)
                self.assertNotIn(bound, UNUSED, name)
                if not isinstance(node, ast.FunctionDef) or bound not in own_methods():
                    self.assertFalse(hasattr(builtins, bound), f"{name}: {bound}")

    def test_locals_are_not_called_like_classes_and_imports(self):
        for name, tree in trees():
            tops = {n.name for n in tree.body if isinstance(n, ast.ClassDef)}
            tops |= {alias.name for n in tree.body if isinstance(n, ast.ImportFrom) for alias in n.names}
            bound = {n.arg for n in ast.walk(tree) if isinstance(n, ast.arg)}
            bound |= {n.id for n in ast.walk(tree) if isinstance(n, ast.Name) and isinstance(n.ctx, ast.Store)}
            self.assertEqual(tops & bound, set(), name)

    def test_names_of_pythons_own(self):
        for name, node in nodes(ast.Name):
            if hasattr(builtins, node.id):
                self.assertIn(node.id, OWN_NAMES, f"{name}:{node.lineno}")

    def test_attributes(self):
        for name, node in nodes(ast.Attribute):
            self.assertNotIn(node.attr, UNUSED, f"{name}:{node.lineno}")
            known = METHODS + DUNDERS + sorted(own_methods() | own_values())
            self.assertIn(node.attr, known, f"{name}:{node.lineno}")

    def test_methods_and_values(self):
        self.assertEqual(own_methods() & own_values(), set())
        taken = {attr for kind in (str, int, list, dict, set, bytes) for attr in dir(kind)} - set(DUNDERS)
        self.assertLessEqual(own_methods() & taken, set(METHODS + ["add", "discard"]))
        self.assertLessEqual(own_values() & taken, set(VALUES))


if __name__ == "__main__":
    unittest.main()
