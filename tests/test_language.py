"""Holds the package's files against the rules of the language part that it keeps to."""

import ast
import builtins
import pathlib
import re
import unittest

PACKAGE = pathlib.Path(__file__).resolve().parent.parent / "surelines"
FILES = sorted(path for path in PACKAGE.rglob("*") if path.is_file() and "__pycache__" not in path.parts)

NODES = """Module Expr Constant ImportFrom alias FunctionDef arguments arg Lambda ClassDef Assign AugAssign If While
For Return Break Continue Pass Raise Try ExceptHandler Call keyword Name Load Store Attribute Subscript Slice
List Tuple Dict Set ListComp comprehension BinOp UnaryOp BoolOp Compare IfExp JoinedStr FormattedValue
Add Sub Mult FloorDiv Mod Pow BitAnd BitOr BitXor LShift RShift Invert Not USub UAdd And Or
Eq NotEq Lt LtE Gt GtE Is IsNot In NotIn""".split()
BUILTINS = """len range enumerate zip min max sum abs sorted reversed int str bool list tuple dict set frozenset
isinstance ord repr any all divmod Exception ValueError TypeError KeyError IndexError LookupError
ZeroDivisionError ArithmeticError OverflowError RuntimeError NotImplementedError AttributeError
StopIteration""".split()
METHODS = """append clear copy count endswith extend find get index insert isalnum isalpha isdigit islower isspace
isupper items join keys ljust lower lstrip partition pop remove replace reverse rfind rjust rpartition rsplit
rstrip setdefault split splitlines startswith strip update upper values zfill bit_length""".split()
WORDS = """type typing typing_extensions enum Enum IntEnum StrEnum Flag IntFlag Generic Protocol ABC ABCMeta
namedtuple NamedTuple TypedDict TYPE_CHECKING abstractmethod""".split()
UNUSED = """register mro elements open input version_info with_traceback add_note format format_map""".split()
PYTHONS_VALUES = (str, int, list, dict, set, bytes, tuple)


class LanguageTest(unittest.TestCase):
    def setUp(self):
        self.trees = {path: ast.parse(path.read_text(encoding="utf-8")) for path in FILES}

    def walk(self, *kinds):
        for path, tree in self.trees.items():
            for node in ast.walk(tree):
                if isinstance(node, kinds):
                    yield path.name, node

    def test_files(self):
        self.assertIn(PACKAGE / "__init__.py", FILES)
        for path in FILES:
            self.assertEqual(path.parent, PACKAGE)
            self.assertRegex(path.name, r"^([a-z][a-z0-9_]*|__init__)\.py$")
            self.assertNotIn(path.stem, dir(builtins))
            text = path.read_bytes()
            self.assertTrue(all(sign == 10 or 32 <= sign <= 126 for sign in text), path.name)
            rows = text.decode().split("\n")
            self.assertLessEqual(len(rows), 401, path.name)
            self.assertLessEqual(max(len(each) for each in rows), 120, path.name)
            words = re.findall(r"[A-Za-z_0-9]+", text.decode())
            self.assertEqual([word for word in words if word in WORDS], [], path.name)
            self.assertIsNone(re.search("dataclass|overload|contextmanager", text.decode()))

    def test_forms(self):
        for name, node in self.walk(ast.AST):
            self.assertIn(node.__class__.__name__, NODES, (name, getattr(node, "lineno", 0)))
        for name, node in self.walk(ast.For, ast.While):
            self.assertEqual(node.orelse, [], (name, node.lineno))
        for name, node in self.walk(ast.Assign):
            self.assertEqual(len(node.targets), 1, (name, node.lineno))
            self.assertNotIsInstance(node.targets[0], (ast.Tuple, ast.List), (name, node.lineno))
        for name, node in self.walk(ast.Compare):
            if any(isinstance(sign, (ast.Is, ast.IsNot)) for sign in node.ops):
                self.assertIsInstance(node.comparators[0], ast.Constant, (name, node.lineno))
        for name, node in self.walk(ast.ListComp):
            self.assertEqual(len(node.generators), 1, (name, node.lineno))
            self.assertLessEqual(len(node.generators[0].ifs), 1, (name, node.lineno))

    def test_constants(self):
        for name, node in self.walk(ast.Constant):
            self.assertIn(node.value.__class__.__name__, ("int", "str", "bool", "NoneType"), (name, node.lineno))
            if isinstance(node.value, str):
                self.assertNotIn("%", node.value, (name, node.lineno))

    def test_functions_and_classes(self):
        for name, node in self.walk(ast.FunctionDef):
            self.assertLessEqual(node.end_lineno - node.lineno + 1, 40, (name, node.name))
            self.assertEqual(node.decorator_list, [], (name, node.name))
            self.assertIsNone(node.args.vararg or node.args.kwarg, (name, node.name))
            self.assertEqual(node.args.kwonlyargs, [], (name, node.name))
        for name, node in self.walk(ast.ClassDef):
            self.assertLessEqual(len(node.bases), 1, (name, node.name))
            for part in node.body:
                self.assertTrue(isinstance(part, ast.FunctionDef) or isinstance(part.value, ast.Constant))

    def test_imports(self):
        drawn = {}
        for name, node in self.walk(ast.ImportFrom):
            self.assertEqual(node.level, 0, name)
            self.assertRegex(node.module, r"^surelines\.[a-z_]+$")
            source = PACKAGE / (node.module.split(".")[1] + ".py")
            tops = [part.name for part in self.trees[source].body if hasattr(part, "name")]
            for part in node.names:
                self.assertIn(part.name, tops, name)
                self.assertIsNone(part.asname, name)
            drawn.setdefault(name, []).append(source.name)
        for path in FILES:
            reached = list(drawn.get(path.name, []))
            for other in reached:
                reached += [each for each in drawn.get(other, []) if each not in reached]
            self.assertNotIn(path.name, reached)
            self.assertNotIn("__init__.py", drawn)

    def test_names(self):
        for path, tree in self.trees.items():
            nodes = list(ast.walk(tree))
            tops = [part.name for part in tree.body if hasattr(part, "name")]
            bound = {node.id for node in nodes if isinstance(node, ast.Name) and isinstance(node.ctx, ast.Store)}
            bound |= {node.arg for node in nodes if isinstance(node, ast.arg)}
            imported = {part.name for node in nodes if isinstance(node, ast.ImportFrom) for part in node.names}
            for each in bound | set(tops):
                self.assertRegex(each, r"^[A-Za-z][A-Za-z0-9_]*$", path.name)
                self.assertNotIn(each, dir(builtins), path.name)
                self.assertNotIn(each, UNUSED, path.name)
            self.assertEqual(bound & (imported | set(tops)), set(), path.name)
            self.assertEqual(len(tops), len(set(tops)), path.name)
            for node in nodes:
                if isinstance(node, ast.Name) and node.id in dir(builtins):
                    self.assertIn(node.id, BUILTINS, (path.name, node.lineno))

    def test_attributes(self):
        values = {node.attr for name, node in self.walk(ast.Attribute) if isinstance(node.ctx, ast.Store)}
        methods = {part.name for name, node in self.walk(ast.ClassDef) for part in node.body if hasattr(part, "name")}
        self.assertEqual(values & methods, set())
        for each in values:
            self.assertFalse(any(hasattr(kind, each) for kind in PYTHONS_VALUES), each)
            self.assertNotIn(each, UNUSED)
        for name, node in self.walk(ast.Attribute):
            self.assertIn(node.attr, values | methods | set(METHODS), (name, node.lineno))


if __name__ == "__main__":
    unittest.main()
