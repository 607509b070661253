"""The package keeps to LANGUAGE.md: the rules on how names, loops, sets, classes and errors are used.

Some rules are asked for more narrowly than LANGUAGE.md has them, where the program needs no more.
"""

import ast
import builtins
import unittest

from tests.test_language import DOUBLE, METHODS, OWN_NAMES, own_methods, own_values, sources

WALKERS = {"zip", "enumerate", "reversed", "range"}
WALKED_BY = {"list", "tuple", "dict", "sorted", "sum", "any", "all", "enumerate", "zip"}
CHANGING = {"append", "clear", "extend", "insert", "pop", "remove", "reverse", "setdefault", "update"}
KEYWORDS = {"sorted": {"key", "reverse"}, "min": {"key", "default"}, "max": {"key", "default"}, "sum": {"start"},
            "enumerate": {"start"}, "zip": {"strict"}}
AS_KEY = {"len", "int", "str", "abs", "sum", "min", "max", "tuple"}
ASKED_BY_ISINSTANCE = {"int", "str", "bool", "list", "tuple", "dict"}
TAKEN_OF_PYTHON = {"KeyError", "ZeroDivisionError", "StopIteration"}
PYTHONS_OWN = {name for kind in (str, int, list, dict, set, bytes) for name in dir(kind)}
FREE_VALUES = {"count", "index", "title", "find", "get", "join", "lower", "upper", "split", "strip", "copy", "add"}


def with_parents(tree):
    for node in ast.walk(tree):
        for child in ast.iter_child_nodes(node):
            child.above = node
    return tree


def called(node):
    """The name of what is called by its name alone."""
    if isinstance(node, ast.Call) and isinstance(node.func, ast.Name):
        return node.func.id
    return None


def method_called(node):
    if isinstance(node, ast.Call) and isinstance(node.func, ast.Attribute):
        return node.func.attr
    return None


def imported_names(tree):
    return {part.name for node in tree.body if isinstance(node, ast.ImportFrom) for part in node.names}


def class_names(trees):
    return {node.name for tree in trees for node in tree.body if isinstance(node, ast.ClassDef)}


def local_names(node):
    for part in ast.walk(node):
        if isinstance(part, ast.arg):
            yield part.arg
        elif isinstance(part, ast.Name) and isinstance(part.ctx, ast.Store):
            yield part.id
        elif isinstance(part, ast.ExceptHandler) and part.name:
            yield part.name
        elif isinstance(part, ast.FunctionDef) and part is not node:
            yield part.name


def shadow_faults(tree):
    tops = imported_names(tree) | {node.name for node in tree.body if isinstance(node, (ast.FunctionDef, ast.ClassDef))}
    for node in ast.walk(tree):
        if isinstance(node, (ast.FunctionDef, ast.Lambda)):
            for name in local_names(node):
                if name in tops or hasattr(builtins, name):
                    yield "L15: " + name, node.lineno


def top_value_faults(tree):
    for node in tree.body:
        if isinstance(node, ast.Assign):
            for part in ast.walk(node.value):
                if not isinstance(part, (ast.Constant, ast.Tuple, ast.Name, ast.Load)):
                    yield "L3, L15", node.lineno


def keyword_faults(tree, errors):
    for node in ast.walk(tree):
        if not isinstance(node, ast.Call) or not node.keywords:
            continue
        given = {part.arg for part in node.keywords}
        if method_called(node) in METHODS or called(node) in errors:
            yield "L22", node.lineno
        if called(node) in OWN_NAMES and not given <= KEYWORDS.get(called(node), set()):
            yield "L22", node.lineno
        for part in node.keywords:
            if part.arg in ("reverse", "strict") and not isinstance(part.value, ast.Constant):
                yield "L22", node.lineno


def asked_of_isinstance(node):
    above = node.above
    if isinstance(above, ast.Tuple):
        node, above = above, above.above
    return called(above) == "isinstance" and above.args[1] is node


def stands_as_except(node):
    above = node.above
    if isinstance(above, ast.Tuple):
        node, above = above, above.above
    return isinstance(above, ast.ExceptHandler) and above.type is node


def own_name_faults(tree):
    for node in ast.walk(tree):
        if isinstance(node, ast.Name) and node.id in OWN_NAMES:
            above = node.above
            as_called = isinstance(above, ast.Call) and above.func is node
            as_key = isinstance(above, ast.keyword) and above.arg == "key" and node.id in AS_KEY
            as_base = isinstance(above, ast.ClassDef) and node.id == "ValueError"
            asked = node.id in ASKED_BY_ISINSTANCE and asked_of_isinstance(node)
            if not (as_called or as_key or as_base or asked or stands_as_except(node)):
                yield "L22: " + node.id, node.lineno


def class_faults(tree, classes):
    for node in ast.walk(tree):
        if isinstance(node, ast.Name) and node.id in classes:
            above = node.above
            as_called = isinstance(above, ast.Call) and above.func is node
            as_base = isinstance(above, ast.ClassDef)
            as_init = isinstance(above, ast.Attribute) and above.attr == "__init__"
            if not (as_called or as_base or as_init or asked_of_isinstance(node) or stands_as_except(node)):
                yield "L18: " + node.id, node.lineno


def is_walked(node):
    above = node.above
    if isinstance(above, (ast.For, ast.comprehension)):
        return above.iter is node
    if called(above) in WALKED_BY:
        return above.args[0] is node
    if called(above) in ("min", "max"):
        return above.args == [node] and not above.keywords
    return method_called(above) == "join" and isinstance(above.func.value, ast.Constant)


def walk_faults(tree):
    for node in ast.walk(tree):
        if called(node) in WALKERS or method_called(node) in ("items", "keys", "values"):
            if not is_walked(node):
                yield "L23", node.lineno


def changed_names(loop):
    for part in ast.walk(loop):
        if method_called(part) in CHANGING and isinstance(part.func.value, ast.Name):
            yield part.func.value.id
        if isinstance(part, ast.Subscript) and isinstance(part.ctx, ast.Store) and isinstance(part.value, ast.Name):
            yield part.value.id


def changed_walk_faults(tree):
    for node in ast.walk(tree):
        if isinstance(node, ast.For):
            walked = {part.id for part in ast.walk(node.iter) if isinstance(part, ast.Name)}
            if called(node.iter) in ("range", "list", "sorted"):
                walked = set()
            if walked & set(changed_names(node)):
                yield "L23", node.lineno


def set_faults(tree):
    for node in ast.walk(tree):
        if isinstance(node, ast.Set):
            yield "L13, L24", node.lineno
        if called(node) in ("set", "frozenset"):
            above = node.above
            if not (called(above) in ("sorted", "len") and above.args == [node] and not above.keywords):
                yield "L24", node.lineno


def lambda_faults(tree):
    rows = [(node.lineno, ast.dump(node.args)) for node in ast.walk(tree) if isinstance(node, ast.Lambda)]
    for row in rows:
        if rows.count(row) > 1:
            yield "L13", row[0]


def taken_names(handler):
    return {part.id for part in ast.walk(handler.type) if isinstance(part, ast.Name)}


def error_faults(tree, errors):
    for node in ast.walk(tree):
        if isinstance(node, ast.ExceptHandler) and not taken_names(node) <= errors | TAKEN_OF_PYTHON:
            yield "L19", node.lineno
        if isinstance(node, ast.Raise):
            if called(node.exc) not in errors:
                yield "L19", node.lineno
            cause = node.cause
            if cause and not isinstance(cause, ast.Name) and not (isinstance(cause, ast.Constant) and not cause.value):
                yield "L19", node.lineno


def method_faults(tree, methods):
    for node in ast.walk(tree):
        if isinstance(node, ast.ClassDef):
            names = [part.name for part in node.body if isinstance(part, ast.FunctionDef)]
            if len(names) != len(set(names)):
                yield "L18", node.lineno
            if set(names) & (DOUBLE - {"__init__"}):
                yield "L28", node.lineno
        if isinstance(node, ast.FunctionDef) and node.name == "__init__":
            if any(isinstance(part, ast.Return) for part in ast.walk(node)):
                yield "L28", node.lineno
        if isinstance(node, ast.Attribute) and node.attr in METHODS | methods:
            if not (isinstance(node.above, ast.Call) and node.above.func is node):
                yield "L25: " + node.attr, node.lineno


def all_faults(text, trees, errors):
    tree = with_parents(ast.parse(text))
    classes = class_names(trees)
    found = [shadow_faults(tree), top_value_faults(tree), keyword_faults(tree, errors), own_name_faults(tree),
             class_faults(tree, classes), walk_faults(tree), changed_walk_faults(tree), set_faults(tree),
             lambda_faults(tree), error_faults(tree, errors), method_faults(tree, own_methods(trees))]
    return [fault for faults in found for fault in faults]


class Uses(unittest.TestCase):
    def setUp(self):
        self.trees = [ast.parse(text) for text in sources().values()]
        self.errors = class_names([ast.parse(sources()["errors.py"])])

    def test_each_file(self):
        for name, text in sources().items():
            with self.subTest(name):
                self.assertEqual(all_faults(text, self.trees, self.errors), [])

    def test_names_of_methods_and_values(self):
        self.assertEqual(own_methods(self.trees) & (PYTHONS_OWN - METHODS - {"add", "discard"}), set())
        self.assertEqual(own_values(self.trees) & (PYTHONS_OWN - FREE_VALUES), set())

    def test_file_names(self):
        for name in sources():
            self.assertNotIn(name[:-3], set(vars(builtins)) - {"__init__"})
            self.assertNotIn(name[:-3], ("test", "tests", "testing", "site", "conftest"))

    def test_code_outside_is_found(self):
        for text in ("def f(len):\n    return len\n", "from loomwright.a import b\n\n\ndef f(b):\n    return b\n",
                     "X = [1, 2]\n", "X = 1 << 4\n", "def f(x):\n    return sorted(x, key=x, cmp=x)\n",
                     "def f(x):\n    return x.split(sep=' ')\n", "def f(x):\n    return f(len)\n",
                     "def f(x):\n    return reversed(range(x))\n", "def f(x):\n    return zip(x, range(3))\n",
                     "def f(x):\n    return x in range(3)\n", "def f(x):\n    y = x.items()\n    return y\n",
                     "def f(x):\n    for y in x:\n        x.append(y)\n", "def f(x):\n    return x in {1, 2, 3}\n",
                     "def f(x):\n    for k, y in enumerate(x):\n        x[k] = y\n", "def f(x):\n    return set(x)\n",
                     "def f(x):\n    return f(lambda y: y, lambda y: x)\n", "def f():\n    raise ValueError('a')\n",
                     "def f():\n    try:\n        f()\n    except ValueError:\n        pass\n",
                     "class A:\n    def __init__(self):\n        return None\n", "def f(x):\n    return f(x.append)\n",
                     "class A:\n    def __len__(self):\n        return 1\n", "def f(x):\n    return min(range(3), x)\n",
                     "class A:\n    def g(self):\n        pass\n\n    def g(self):\n        pass\n"):
            self.assertNotEqual(all_faults(text, [ast.parse(text)], self.errors), [], text)
        own = "class A:\n    pass\n\n\ndef f():\n    return [A]\n"
        self.assertNotEqual(all_faults(own, [ast.parse(own)], self.errors), [])
