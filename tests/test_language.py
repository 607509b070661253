"""The package keeps to LANGUAGE.md, as far as its rules can be asked of the files' trees."""

import ast
import builtins
import os
import re
import unittest

PACKAGE = os.path.join(os.path.dirname(os.path.dirname(os.path.abspath(__file__))), "loomwright")

NODES = set("""
    Module Expr Constant FunctionDef arguments arg ClassDef Assign AugAssign If While For Return Break Continue Pass
    Raise Try ExceptHandler Call keyword ImportFrom alias Name Attribute Subscript Slice List Tuple Dict Set BinOp
    UnaryOp BoolOp Compare IfExp ListComp comprehension JoinedStr FormattedValue Lambda Load Store Add Sub Mult
    FloorDiv Mod Pow BitAnd BitOr BitXor LShift RShift Invert Not USub UAdd And Or Eq NotEq Lt LtE Gt GtE Is IsNot
    In NotIn
""".split())
OWN_NAMES = set("""
    len range enumerate zip min max sum abs sorted reversed int str bool list tuple dict set isinstance ord repr any
    all divmod Exception ValueError TypeError KeyError IndexError LookupError ZeroDivisionError ArithmeticError
    OverflowError RuntimeError NotImplementedError AttributeError StopIteration
""".split())
METHODS = set("""
    append clear copy count endswith extend find get index insert isalnum isalpha isdigit islower isspace isupper items
    join keys ljust lower lstrip partition pop remove replace reverse rfind rjust rpartition rsplit rstrip setdefault
    split splitlines startswith strip update upper values zfill bit_length
""".split())
DOUBLE = {"__init__", "__eq__", "__repr__", "__str__", "__len__"}
WORDS = re.compile(r"\b(type|typing|typing_extensions|enum|Enum|IntEnum|StrEnum|Flag|IntFlag|Generic|Protocol|ABC|ABCMeta"
                   r"|namedtuple|NamedTuple|TypedDict|TYPE_CHECKING|abstractmethod)\b|dataclass|overload|contextmanager")
NOWHERE = {"register", "mro", "elements", "open", "input", "version_info", "with_traceback", "add_note", "format",
           "format_map", "args", "encode", "sort"}
PLAIN = re.compile(r"[A-Za-z][A-Za-z0-9_]*$")


def sources():
    found = {}
    for name in sorted(os.listdir(PACKAGE)):
        if name != "__pycache__":
            with open(os.path.join(PACKAGE, name), "rb") as file:
                found[name] = file.read().decode("utf-8")
    return found


def bound_names(tree):
    for node in ast.walk(tree):
        if isinstance(node, ast.arg):
            yield node, node.arg
        elif isinstance(node, ast.Name) and isinstance(node.ctx, ast.Store):
            yield node, node.id
        elif isinstance(node, (ast.FunctionDef, ast.ClassDef)):
            yield node, node.name


def own_methods(trees):
    return {part.name for tree in trees for node in ast.walk(tree) if isinstance(node, ast.ClassDef)
            for part in node.body if isinstance(part, ast.FunctionDef)} - DOUBLE


def own_values(trees):
    return {node.attr for tree in trees for node in ast.walk(tree)
            if isinstance(node, ast.Attribute) and isinstance(node.ctx, ast.Store)}


def text_faults(name, text):
    if not re.match(r"([a-z][a-z0-9_]*|__init__|__main__)\.py$", name):
        yield "L1, L14", 0
    lines = text.split("\n")
    if len(lines) > 401:
        yield "L10", 400
    for number, line in enumerate(lines, start=1):
        if len(line) > 120 or "\t" in line:
            yield "L10", number
        if not all(" " <= sign <= "~" for sign in line):
            yield "L14", number
        if WORDS.search(line):
            yield "L17", number


def top_faults(tree):
    for place, node in enumerate(tree.body):
        docstring = place == 0 and isinstance(node, ast.Expr) and isinstance(node.value, ast.Constant)
        if not docstring and not isinstance(node, (ast.ImportFrom, ast.FunctionDef, ast.ClassDef, ast.Assign)):
            yield "L3", node.lineno
    names = [node.name for node in tree.body if isinstance(node, (ast.FunctionDef, ast.ClassDef))]
    names += [node.targets[0].id for node in tree.body if isinstance(node, ast.Assign)]
    names += [part.name for node in tree.body if isinstance(node, ast.ImportFrom) for part in node.names]
    if len(names) != len(set(names)):
        yield "L15", 0
    for node in ast.walk(tree):
        if isinstance(node, ast.ImportFrom) and node not in tree.body:
            yield "L2", node.lineno
        if isinstance(node, ast.ClassDef) and node not in tree.body:
            yield "L15", node.lineno


def def_faults(node):
    if isinstance(node, ast.FunctionDef):
        given = node.args
        if node.decorator_list or given.vararg or given.kwarg or given.kwonlyargs or given.posonlyargs:
            yield "L4"
        if node.returns or any(part.annotation for part in given.args):
            yield "L21"
        if node.end_lineno - node.lineno + 1 > 40:
            yield "L10"
        if node.name.startswith("__") and node.name not in DOUBLE:
            yield "L5"
    if isinstance(node, ast.ClassDef):
        if node.decorator_list or node.keywords or len(node.bases) > 1:
            yield "L5"
        if not all(isinstance(part, (ast.FunctionDef, ast.Pass)) for part in node.body):
            yield "L5"


def statement_faults(node):
    if isinstance(node, (ast.For, ast.While)) and node.orelse:
        yield "L6"
    if isinstance(node, ast.Try) and (node.finalbody or not node.handlers):
        yield "L6"
    if isinstance(node, ast.ExceptHandler):
        if node.type is None or any(isinstance(part, ast.Name) and part.id in ("Exception", "TypeError")
                                    for part in ast.walk(node.type)):
            yield "L19"
    if isinstance(node, ast.Raise) and not isinstance(node.exc, ast.Call):
        yield "L19"
    if isinstance(node, ast.Assign) and len(node.targets) > 1:
        yield "L6"
    if isinstance(node, ast.ImportFrom):
        if node.level or not node.module.startswith("loomwright.") or any(
                part.name == "*" or part.asname for part in node.names):
            yield "L2, L16"


def value_faults(node):
    if isinstance(node, ast.Constant):
        if not (node.value is None or isinstance(node.value, (bool, int, str))):
            yield "L7"
        if isinstance(node.value, str) and "%" in node.value:
            yield "L27"
    if isinstance(node, ast.ListComp) and (len(node.generators) > 1 or len(node.generators[0].ifs) > 1):
        yield "L7"
    if isinstance(node, ast.FormattedValue):
        if not isinstance(node.value, ast.Name) or node.format_spec or node.conversion not in (-1, ord("r")):
            yield "L7"
    if isinstance(node, ast.BinOp) and isinstance(node.op, ast.Pow) and not isinstance(node.right, ast.Constant):
        yield "L27"
    if isinstance(node, ast.Compare):
        for operation, right in zip(node.ops, node.comparators):
            if isinstance(operation, (ast.Is, ast.IsNot)):
                if not isinstance(right, ast.Constant) or right.value not in (None, True, False):
                    yield "L20"
    if isinstance(node, ast.Name) and hasattr(builtins, node.id) and node.id not in OWN_NAMES:
        yield "L8, L17"
    if isinstance(node, ast.Attribute):
        if node.attr in NOWHERE or (not PLAIN.match(node.attr) and node.attr != "__init__"):
            yield "L12, L17"


def tree_faults(tree):
    for node in ast.walk(tree):
        line = getattr(node, "lineno", 0)
        if node.__class__.__name__ not in NODES:
            yield "L6, L7: " + node.__class__.__name__, line
        for find in (def_faults, statement_faults, value_faults):
            for rule in find(node):
                yield rule, line
    methods = [part for node in tree.body if isinstance(node, ast.ClassDef) for part in node.body]
    for node, name in bound_names(tree):
        if not PLAIN.match(name) and name not in DOUBLE:
            yield "L12", node.lineno
        if hasattr(builtins, name) and node not in methods:
            yield "L15", node.lineno
    allowed = [tree.body[0]] if tree.body else []
    for node in ast.walk(tree):
        if isinstance(node, ast.Expr) and not isinstance(node.value, ast.Call) and node not in allowed:
            yield "L6", node.lineno


def call_faults(tree, known):
    for node in ast.walk(tree):
        if isinstance(node, ast.Call) and isinstance(node.func, ast.Attribute):
            if node.func.attr not in known and node.func.attr != "__init__":
                yield "L25", node.lineno


def all_faults(name, text, known=METHODS):
    tree = ast.parse(text)
    found = [text_faults(name, text), top_faults(tree), tree_faults(tree), call_faults(tree, known)]
    return [fault for faults in found for fault in faults]


class Language(unittest.TestCase):
    def test_each_file(self):
        trees = [ast.parse(text) for text in sources().values()]
        known = METHODS | own_methods(trees) | own_values(trees)
        for name, text in sources().items():
            with self.subTest(name):
                self.assertEqual(all_faults(name, text, known), [])

    def test_no_name_is_a_method_and_a_value(self):
        trees = [ast.parse(text) for text in sources().values()]
        self.assertEqual(own_methods(trees) & own_values(trees), set())

    def test_names_are_drawn_from_where_they_stand(self):
        # Files are taken off as soon as all that they draw from is taken off: a ring would stay.
        tops, drawn = {}, {}
        for name, text in sources().items():
            tree = ast.parse(text)
            rows = [node for node in tree.body if isinstance(node, ast.ImportFrom)]
            tops[name] = {bound.name for bound in tree.body if isinstance(bound, (ast.FunctionDef, ast.ClassDef))}
            tops[name] |= {bound.targets[0].id for bound in tree.body if isinstance(bound, ast.Assign)}
            drawn[name] = [(row.module.split(".")[1] + ".py", part.name) for row in rows for part in row.names]
        for name, parts in drawn.items():
            for file, part in parts:
                self.assertIn(part, tops[file], name)
        while drawn:
            free = [name for name in drawn if not any(file in drawn for file, _ in drawn[name])]
            self.assertTrue(free, sorted(drawn))
            for name in free:
                drawn.pop(name)

    def test_code_outside_is_found(self):
        for text in ("import os\n", "from . import a\n", "from loomwright.a import *\n", "x = 1.0\n", "x = 3 / 2\n",
                     "def f(*a):\n    return a\n", "def f(a: int):\n    return a\n", "def f(x):\n    return x is f\n",
                     "def f():\n    'words'\n", "def f(x):\n    x.sort()\n", "def f(id):\n    return id\n",
                     "def f(x):\n    return open(x)\n", "def f(x):\n    del x\n", "def f():\n    raise ValueError\n",
                     "def f():\n" + "    pass\n" * 40, "# type\n", "x = '%'\n", "_x = 1\n", "class A:\n    x = 1\n",
                     "def f(x):\n    a = b = x\n", "def f(x):\n    return {y for y in x}\n", "print(1)\n",
                     "def f(n):\n    return 2 ** n\n", "x = 1\nx = 2\n", "x = '\u00e4'\n", "# " + "a" * 120 + "\n"):
            self.assertNotEqual(all_faults("a.py", text), [], text)
