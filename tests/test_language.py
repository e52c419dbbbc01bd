"""The package's own files keep to the small part of Python that they are to be written in."""

import ast
import builtins
import pathlib
import re
import unittest

PACKAGE = pathlib.Path(__file__).resolve().parent.parent / "leafvalues"
FILES = sorted(PACKAGE.rglob("*.py"))

NODES = """
Module Expr Assign AugAssign If While For Return Break Continue Pass Raise Try ExceptHandler FunctionDef ClassDef
arguments arg ImportFrom alias Constant Name Attribute Subscript Slice Call keyword List Tuple Dict Set Load Store
BinOp UnaryOp BoolOp Compare IfExp ListComp comprehension JoinedStr FormattedValue Lambda
Add Sub Mult FloorDiv Mod Pow BitAnd BitOr BitXor Invert LShift RShift USub UAdd Not And Or
Eq NotEq Lt LtE Gt GtE In NotIn Is IsNot
""".split()
OWN_NAMES = """
len range enumerate zip min max sum abs sorted reversed int str bool list tuple dict set frozenset isinstance ord repr
any all divmod Exception ValueError TypeError KeyError IndexError LookupError ZeroDivisionError ArithmeticError
OverflowError RuntimeError NotImplementedError AttributeError StopIteration
""".split()
METHODS = """
append clear copy count endswith extend find get index insert isalnum isalpha isdigit islower isspace isupper items
join keys ljust lower lstrip partition pop remove replace reverse rfind rjust rpartition rsplit rstrip setdefault split
splitlines startswith strip update upper values zfill bit_length
""".split()
BANNED_WORDS = """
type typing typing_extensions enum Enum IntEnum StrEnum Flag IntFlag Generic Protocol ABC ABCMeta namedtuple NamedTuple
TypedDict TYPE_CHECKING abstractmethod
""".split()
BANNED_NAMES = """
register mro elements open input version_info with_traceback add_note attrgetter breakpoint builtins compile copyright
credits delattr dir eval exec exit gc getattr globals hasattr help id importlib license locals methodcaller os quit
setattr super vars sys format format_map chr
""".split()
WALKERS = ("list", "tuple", "dict", "sorted", "sum", "any", "all", "enumerate", "zip")
CONSTANTS = (int, str, bool, type(None))


def parsed():
    return [(path, ast.parse(path.read_text("ascii"))) for path in FILES]


def nodes(kind):
    return [(path, node) for path, tree in parsed() for node in ast.walk(tree) if isinstance(node, kind)]


def top_names(tree):
    found = []
    for node in tree.body:
        if isinstance(node, ast.ImportFrom):
            found.extend(alias.name for alias in node.names)
        elif isinstance(node, (ast.FunctionDef, ast.ClassDef)):
            found.append(node.name)
        elif isinstance(node, ast.Assign):
            found.append(node.targets[0].id)
    return found


def locals_of(function):
    found = [parameter.arg for parameter in function.args.args]
    for node in ast.walk(function):
        if isinstance(node, ast.Name) and isinstance(node.ctx, ast.Store):
            found.append(node.id)
        elif isinstance(node, ast.ExceptHandler) and node.name:
            found.append(node.name)
    return found


class Files(unittest.TestCase):
    def test_nothing_else_lies_there(self):
        self.assertTrue((PACKAGE / "__init__.py").is_file())
        for path in PACKAGE.rglob("*"):
            if path.name != "__pycache__" and path.parent.name != "__pycache__":
                self.assertRegex(path.name, r"^(__init__|[a-z][a-z0-9_]*)\.py$")
                self.assertNotIn(path.stem, dir(builtins))

    def test_signs_and_sizes(self):
        for path in FILES:
            data = path.read_bytes()
            self.assertTrue(all(byte == 10 or 32 <= byte <= 126 for byte in data), path)
            rows = data.decode("ascii").splitlines()
            self.assertLessEqual(len(rows), 399, path)
            self.assertLessEqual(max(len(row) for row in rows), 120, path)

    def test_words(self):
        for path in FILES:
            for word in re.findall(r"\w+", path.read_text("ascii")):
                self.assertNotIn(word, BANNED_WORDS, path)
                self.assertNotRegex(word, "dataclass|overload|contextmanager")


class Forms(unittest.TestCase):
    def test_nodes(self):
        for path, node in nodes(ast.AST):
            self.assertIn(type(node).__name__, NODES, (path, getattr(node, "lineno", 0)))

    def test_top_of_a_file(self):
        allowed = (ast.ImportFrom, ast.FunctionDef, ast.ClassDef, ast.Assign)
        for path, tree in parsed():
            self.assertIsNotNone(ast.get_docstring(tree), path)
            for node in tree.body[1:]:
                self.assertIsInstance(node, allowed, (path, node.lineno))
                if isinstance(node, ast.Assign):
                    for part in ast.walk(node.value):
                        self.assertIsInstance(part, (ast.Constant, ast.Tuple, ast.Dict, ast.List, ast.Load), path)
            names = top_names(tree)
            self.assertEqual(len(names), len(set(names)), path)

    def test_imports(self):
        tops = {path.stem: tree for path, tree in parsed()}
        drawn = {}
        for path, node in nodes(ast.ImportFrom):
            package, module = node.module.split(".")
            self.assertEqual((package, node.level), ("leafvalues", 0))
            own = [part.name for part in tops[module].body if isinstance(part, (ast.FunctionDef, ast.ClassDef))]
            own += [part.targets[0].id for part in tops[module].body if isinstance(part, ast.Assign)]
            for alias in node.names:
                self.assertIsNone(alias.asname)
                self.assertIn(alias.name, own, path)
            drawn.setdefault(path.stem, []).append(module)
        while drawn:
            free = [stem for stem in drawn if not set(drawn[stem]) & set(drawn)]
            self.assertTrue(free, "files draw from one another")
            for stem in free:
                del drawn[stem]

    def test_functions(self):
        for path, node in nodes(ast.FunctionDef):
            where = (path, node.lineno)
            self.assertLessEqual(node.end_lineno - node.lineno + 1, 40, where)
            arguments = node.args
            self.assertFalse(arguments.vararg or arguments.kwarg or arguments.kwonlyargs or arguments.posonlyargs, where)
            self.assertFalse(node.decorator_list or node.returns, where)
            if node.name.startswith("_"):
                self.assertEqual(node.name, "__init__", where)

    def test_classes(self):
        methods, values = set(), set()
        for path, node in nodes(ast.ClassDef):
            self.assertLessEqual(len(node.bases), 1)
            self.assertFalse(node.keywords or node.decorator_list)
            for part in node.body[1:]:
                self.assertIsInstance(part, ast.FunctionDef)
                methods.add(part.name)
            self.assertIsNotNone(ast.get_docstring(node))
        for path, node in nodes(ast.Attribute):
            if isinstance(node.ctx, ast.Store):
                self.assertEqual(node.value.id, "self", path)
                values.add(node.attr)
        self.assertEqual(methods & values, set())
        own = set(dir("") + dir(0) + dir([]) + dir({}) + dir(set()) + dir(b"")) - {"__init__"}
        self.assertEqual((methods | values) & own, set())

    def test_statements(self):
        for path, node in nodes((ast.For, ast.While)):
            self.assertEqual(node.orelse, [], (path, node.lineno))
        for path, node in nodes(ast.Assign):
            self.assertEqual(len(node.targets), 1, (path, node.lineno))
            self.assertNotIsInstance(node.targets[0], (ast.Tuple, ast.List), (path, node.lineno))
        for path, node in nodes(ast.Try):
            self.assertEqual(node.finalbody, [], (path, node.lineno))
            for handler in node.handlers:
                self.assertIn(handler.type.id, ("Fault", "Refusal"), (path, node.lineno))
        for path, node in nodes(ast.Raise):
            self.assertIsInstance(node.exc, ast.Call, (path, node.lineno))


class Values(unittest.TestCase):
    def test_constants(self):
        for path, node in nodes(ast.Constant):
            self.assertIsInstance(node.value, CONSTANTS, (path, node.lineno))
            if isinstance(node.value, str):
                self.assertNotIn("%", node.value, (path, node.lineno))

    def test_comprehensions_and_texts(self):
        for path, node in nodes(ast.ListComp):
            self.assertEqual(len(node.generators), 1, (path, node.lineno))
            self.assertLessEqual(len(node.generators[0].ifs), 1, (path, node.lineno))
        for path, node in nodes(ast.FormattedValue):
            self.assertIsInstance(node.value, ast.Name, (path, node.lineno))
            self.assertIsNone(node.format_spec, (path, node.lineno))

    def test_names(self):
        for path, tree in parsed():
            tops = top_names(tree)
            for function in [node for node in ast.walk(tree) if isinstance(node, ast.FunctionDef)]:
                inside = locals_of(function)
                for name in inside:
                    self.assertRegex(name, r"^[A-Za-z][A-Za-z0-9_]*$", path)
                    self.assertNotIn(name, tops, (path, function.name))
                    self.assertNotIn(name, dir(builtins), (path, function.name))
                for node in ast.walk(function):
                    if isinstance(node, ast.Name):
                        self.assertIn(node.id, inside + tops + OWN_NAMES, (path, node.lineno))
                        self.assertNotIn(node.id, BANNED_NAMES, (path, node.lineno))

    def test_powers_and_is(self):
        for path, node in nodes(ast.BinOp):
            if isinstance(node.op, ast.Pow):
                self.assertIsInstance(node.right, ast.Constant, (path, node.lineno))
        for path, node in nodes(ast.Compare):
            for asked, right in zip(node.ops, node.comparators):
                if isinstance(asked, (ast.Is, ast.IsNot)):
                    self.assertIn(getattr(right, "value", 0), (None, True, False), (path, node.lineno))

    def test_what_is_walked_on_the_spot(self):
        """zip, reversed and their like stand behind an in, or as the first thing in a call that walks them."""
        for path, tree in parsed():
            walked = []
            for node in ast.walk(tree):
                if isinstance(node, (ast.For, ast.comprehension)):
                    walked.append(node.iter)
                elif isinstance(node, ast.Call) and getattr(node.func, "id", "") in WALKERS:
                    walked.extend(node.args[:1])
            for node in ast.walk(tree):
                if isinstance(node, ast.Call):
                    called = getattr(node.func, "id", getattr(node.func, "attr", ""))
                    if called in ("zip", "enumerate", "reversed", "range", "items", "keys", "values"):
                        self.assertIn(node, walked, (path, node.lineno))

    def test_methods(self):
        own = {node.name for path, node in nodes(ast.FunctionDef)}
        for path, node in nodes(ast.Call):
            if isinstance(node.func, ast.Attribute):
                self.assertIn(node.func.attr, own | set(METHODS), (path, node.lineno))
            self.assertEqual(node.keywords, [], (path, node.lineno))
        for path, node in nodes(ast.Attribute):
            self.assertNotIn(node.attr, BANNED_NAMES, (path, node.lineno))

    def test_interface(self):
        answers = [(path.name, node) for path, node in nodes(ast.FunctionDef) if node.name == "answers"]
        self.assertEqual([name for name, node in answers], ["records.py"])
        self.assertEqual([parameter.arg for parameter in answers[0][1].args.args], ["calls"])


if __name__ == "__main__":
    unittest.main()
