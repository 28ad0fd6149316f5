"""A check of the package's files against those rules of LANGUAGE.md that a look at the parts of a file can see.

In places it is narrower than the rules. It sees nothing of L11, L13, L18, L19, L22, L24, L26 and L28, and only
a part of L5, L7, L15, L23 and L27: these stay with the reader.
"""

import ast
import builtins
import pathlib
import re
import unittest

PACKAGE = pathlib.Path(__file__).resolve().parent.parent / "pactkeep"
STATEMENTS = (
    ast.FunctionDef, ast.ClassDef, ast.Return, ast.Assign, ast.AugAssign, ast.For, ast.While, ast.If, ast.Raise,
    ast.Try, ast.Break, ast.Continue, ast.Pass, ast.Expr, ast.ImportFrom,
)
EXPRESSIONS = (
    ast.BoolOp, ast.BinOp, ast.UnaryOp, ast.Lambda, ast.IfExp, ast.Dict, ast.Set, ast.List, ast.Tuple, ast.ListComp,
    ast.Compare, ast.Call, ast.JoinedStr, ast.FormattedValue, ast.Constant, ast.Attribute, ast.Subscript, ast.Slice,
    ast.Name,
)
OWN_NAMES = set("""
    len range enumerate zip min max sum abs sorted reversed int str bool list tuple dict set frozenset isinstance
    ord repr any all divmod Exception ValueError TypeError KeyError IndexError LookupError ZeroDivisionError
    ArithmeticError OverflowError RuntimeError NotImplementedError AttributeError StopIteration
""".split())
METHODS = set("""
    append clear copy count endswith extend find get index insert isalnum isalpha isdigit islower isspace isupper
    items join keys ljust lower lstrip partition pop remove replace reverse rfind rjust rpartition rsplit rstrip
    setdefault split splitlines startswith strip update upper values zfill bit_length
""".split())
UNUSED = set("""
    register mro elements open input version_info with_traceback add_note attrgetter breakpoint builtins compile
    copyright credits delattr dir eval exec exit gc getattr globals hasattr help id importlib license locals
    methodcaller os quit setattr super type vars sys chr format format_map
""".split())
WORDS = re.compile(
    r"\b(type|typing|typing_extensions|enum|Enum|IntEnum|StrEnum|Flag|IntFlag|Generic|Protocol|ABC|ABCMeta"
    r"|namedtuple|NamedTuple|TypedDict|TYPE_CHECKING|abstractmethod)\b|dataclass|overload|contextmanager"
)
FILE_NAME = re.compile(r"[a-z][a-z0-9_]*\.py|__init__\.py")
NO_FILE_NAME = re.compile(r"(tests?|testing|test_.*|site|conftest|sitecustomize|usercustomize)\.py")
NAME = re.compile(r"[A-Za-z][A-Za-z0-9_]*")
WALKED = ("zip", "enumerate", "reversed", "range", "items", "keys", "values")
WALKERS = ("list", "tuple", "dict", "sorted", "sum", "any", "all", "enumerate", "zip", "min", "max", "join")
SPECIAL_METHODS = ("__init__", "__eq__", "__repr__", "__str__", "__len__")
BAD = (
    "import sys\n", "from math import gcd\n", "from .errors import NoText\n", "from pactkeep.errors import *\n",
    "print(1)\n", "a = 1.5\n", "a = b'x'\n", "a = 1\na = 2\n", "a = 3 / 2\n", "a, b = 1, 2\n",
    "def f(*a):\n    pass\n", "def f(*, a):\n    pass\n", "def f(len):\n    pass\n", "def f(_a):\n    pass\n",
    "def f(a):\n    yield a\n", "def f(a):\n    assert a\n", "def f(a):\n    return a is f\n",
    "def f(a):\n    return a is 1\n",
    "def f(a):\n    return all(b for b in a)\n", "def f(a):\n    return {b for b in a}\n",
    "def f(a):\n    return [b for c in a for b in c]\n", "def f(a):\n    return a.sort()\n",
    "def f(a):\n    return map(f, a)\n", "def f(a):\n    return getattr(a, 'b')\n", "def f(a):\n    return 2 ** a\n",
    "def f(a):\n    with a:\n        pass\n", "def f(a):\n    return (a := 1)\n", "def f(a):\n    return [*a]\n",
    "def f(a):\n    for b in a:\n        pass\n    else:\n        pass\n", "def f(a: int):\n    pass\n",
    "def f(a):\n    b = range(a)\n    return b\n", "def f(a):\n    return a.items()\n",
    "def f(a):\n    return max(1, zip(a, a))\n", "def f(a):\n    return a + reversed(a)\n",
    "class A:\n    b = 1\n", "class A(ValueError, KeyError):\n    pass\n", "# a type\n", "# \u00e9\n", "#\t\n",
    "def f():\n" + "    pass\n" * 40, "# " + "a" * 120 + "\n", "#\n" * 401,
)


def file_name_faults(name):
    stem = name.removesuffix(".py")
    if not FILE_NAME.fullmatch(name) or NO_FILE_NAME.fullmatch(name):
        return ["L1, L14: file name"]
    return ["L14: file name"] if stem in dir(builtins) or WORDS.fullmatch(stem) else []


def text_faults(text):
    faults = []
    if len(text.splitlines()) > 400:
        faults.append("L10: file too long")
    for number, line in enumerate(text.split("\n"), start=1):
        if len(line) > 120:
            faults.append(f"L10: line {number}")
        if not all(" " <= sign <= "~" for sign in line):
            faults.append(f"L14: sign in line {number}")
        if WORDS.search(line):
            faults.append(f"L17: word in line {number}")
    return faults


def is_plain_value(node):
    if isinstance(node, ast.UnaryOp) and isinstance(node.op, ast.USub):
        node = node.operand
    if isinstance(node, (ast.List, ast.Tuple)):
        return all(is_plain_value(part) for part in node.elts)
    if isinstance(node, ast.Dict):
        return all(is_plain_value(part) for part in node.keys + node.values)
    return isinstance(node, (ast.Constant, ast.Name))


def top_faults(tree, package):
    faults = []
    bound = []
    for place, node in enumerate(tree.body):
        if isinstance(node, ast.ImportFrom):
            bound += [part.name for part in node.names]
            if node.level or not str(node.module).startswith(package + ".") or any(
                part.name == "*" or part.asname for part in node.names
            ):
                faults.append(f"L2, L16: line {node.lineno}")
        elif isinstance(node, (ast.FunctionDef, ast.ClassDef)):
            bound.append(node.name)
        elif isinstance(node, ast.Assign) and isinstance(node.targets[0], ast.Name) and is_plain_value(node.value):
            bound.append(node.targets[0].id)
        elif place > 0 or not isinstance(node, ast.Expr) or not isinstance(node.value, ast.Constant):
            faults.append(f"L3: line {node.lineno}")
    return faults + [f"L15: {name}" for name in sorted(set(bound)) if bound.count(name) > 1]


def def_faults(node):
    given = node.args
    if given.vararg or given.kwarg or given.kwonlyargs or given.posonlyargs:
        return ["L4: parameters"]
    if not all(is_plain_value(part) for part in given.defaults):
        return ["L4: defaults"]
    if isinstance(node, ast.Lambda):
        return []
    if node.decorator_list or node.returns or any(part.annotation for part in given.args):
        return ["L4, L21: decorator or annotation"]
    return ["L10: function too long"] if node.end_lineno - node.lineno >= 40 else []


def class_faults(node):
    if len(node.bases) > 1 or node.keywords or node.decorator_list:
        return ["L5: base or decorator"]
    return [] if all(isinstance(part, (ast.FunctionDef, ast.Pass)) for part in node.body) else ["L5: body"]


def statement_faults(node):
    if not isinstance(node, STATEMENTS):
        return ["L6: statement"]
    if isinstance(node, ast.FunctionDef):
        return def_faults(node)
    if isinstance(node, ast.ClassDef):
        return class_faults(node)
    if isinstance(node, (ast.For, ast.While)) and node.orelse:
        return ["L6: else behind a loop"]
    if isinstance(node, ast.Try) and node.finalbody:
        return ["L6: finally"]
    if isinstance(node, ast.Assign) and len(node.targets) > 1:
        return ["L6: targets"]
    if isinstance(node, ast.Expr) and not isinstance(node.value, (ast.Call, ast.Constant)):
        return ["L6: a value by itself"]
    return []


def constant_faults(node):
    if not isinstance(node.value, (int, str)) and node.value is not None:
        return ["L7: value"]
    return ["L27: sign in a text"] if isinstance(node.value, str) and "%" in node.value else []


def compare_faults(node):
    sides = [node.left] + node.comparators
    for place, sign in enumerate(node.ops):
        pair = sides[place:place + 2]
        if isinstance(sign, (ast.Is, ast.IsNot)) and not any(
            isinstance(side, ast.Constant) and repr(side.value) in ("None", "True", "False") for side in pair
        ):
            return ["L20: is"]
    return []


def expression_faults(node):
    if not isinstance(node, EXPRESSIONS):
        return ["L7: expression"]
    if isinstance(node, ast.Constant):
        return constant_faults(node)
    if isinstance(node, ast.Compare):
        return compare_faults(node)
    if isinstance(node, ast.Lambda):
        return def_faults(node)
    if isinstance(node, ast.BinOp) and isinstance(node.op, (ast.Div, ast.MatMult)):
        return ["L7: / or @"]
    if isinstance(node, ast.BinOp) and isinstance(node.op, ast.Pow) and not isinstance(node.right, ast.Constant):
        return ["L27: exponent"]
    if isinstance(node, ast.ListComp) and (len(node.generators) > 1 or len(node.generators[0].ifs) > 1):
        return ["L7: comprehension"]
    if isinstance(node, ast.FormattedValue) and (not isinstance(node.value, ast.Name) or node.format_spec):
        return ["L7: f-string"]
    return []


def name_faults(name, is_bound):
    if not NAME.fullmatch(name) and name not in SPECIAL_METHODS:
        return ["L12: " + name]
    if name in UNUSED or name in dir(builtins) and (is_bound or name not in OWN_NAMES):
        return ["L8, L15, L17: " + name]
    return []


def names_in(node):
    """The names that a node says, each with whether it is bound there."""
    if isinstance(node, ast.Name):
        return [(node.id, isinstance(node.ctx, ast.Store))]
    if isinstance(node, ast.arg):
        return [(node.arg, True)]
    if isinstance(node, (ast.FunctionDef, ast.ClassDef)):
        return [(node.name, True)]
    if isinstance(node, ast.ImportFrom):
        return [(part.name, True) for part in node.names]
    return []


def node_faults(node, own):
    faults = []
    if isinstance(node, ast.stmt):
        faults += statement_faults(node)
    if isinstance(node, ast.expr):
        faults += expression_faults(node)
    if isinstance(node, ast.Attribute) and (node.attr in UNUSED or node.attr not in METHODS and node.attr not in own):
        faults.append("L17, L25: " + node.attr)
    for name, is_bound in names_in(node):
        faults += name_faults(name, is_bound)
    return faults


def called(node):
    if not isinstance(node, ast.Call):
        return None
    return node.func.id if isinstance(node.func, ast.Name) else getattr(node.func, "attr", None)


def walk_faults(tree):
    """Only the walks that stand where they may: behind an in, or straight within a call that walks."""
    walked = []
    for node in ast.walk(tree):
        if isinstance(node, (ast.For, ast.comprehension)):
            walked.append(node.iter)
        if called(node) in WALKERS and (called(node) not in ("min", "max") or len(node.args) == 1):
            walked += node.args if called(node) == "zip" else node.args[:1]
    return [
        f"L23: line {node.lineno}" for node in ast.walk(tree)
        if called(node) in WALKED and not any(node is other for other in walked)
    ]


def own_attributes(tree):
    """The methods and values of the file's own classes."""
    own = []
    for node in ast.walk(tree):
        if isinstance(node, ast.ClassDef):
            own += [part.name for part in node.body if isinstance(part, ast.FunctionDef)]
        if isinstance(node, ast.Attribute) and isinstance(node.ctx, ast.Store):
            own.append(node.attr)
    return own


def faults_of(name, text, package, own):
    tree = ast.parse(text)
    faults = file_name_faults(name) + text_faults(text) + top_faults(tree, package) + walk_faults(tree)
    for node in ast.walk(tree):
        for fault in node_faults(node, own):
            faults.append(f"{fault}: line {node.lineno}")
    return faults


class LanguageTest(unittest.TestCase):
    def files(self):
        return sorted(path for path in PACKAGE.rglob("*") if "__pycache__" not in path.parts)

    def test_nothing_but_files_of_python_lies_in_the_package(self):
        for path in self.files():
            self.assertTrue(path.is_file() and path.suffix == ".py", path)
        self.assertIn(PACKAGE / "__init__.py", self.files())

    def test_the_package_keeps_to_the_rules(self):
        own = []
        for path in self.files():
            own += own_attributes(ast.parse(path.read_text(encoding="utf-8")))
        for path in self.files():
            text = path.read_bytes().decode("utf-8")
            self.assertEqual(faults_of(path.name, text, "pactkeep", own), [], path.name)

    def test_names_are_drawn_from_the_file_that_defines_them_and_not_in_a_round(self):
        drawn = {}
        for path in self.files():
            tree = ast.parse(path.read_text(encoding="utf-8"))
            rows = [node for node in tree.body if isinstance(node, ast.ImportFrom)]
            drawn["pactkeep." + path.stem] = [node.module for node in rows]
            for node in rows:
                source = (PACKAGE / node.module.removeprefix("pactkeep.")).with_suffix(".py")
                defined = ast.parse(source.read_text(encoding="utf-8")).body
                names = [part.name for part in defined if isinstance(part, (ast.FunctionDef, ast.ClassDef))]
                names += [part.targets[0].id for part in defined if isinstance(part, ast.Assign)]
                for name in node.names:
                    self.assertIn(name.name, names, path.name)
        while drawn:
            free = [name for name in drawn if not any(other in drawn for other in drawn[name])]
            self.assertTrue(free, drawn)
            drawn = {name: drawn[name] for name in drawn if name not in free}

    def test_what_breaks_a_rule_is_seen(self):
        for text in BAD:
            self.assertNotEqual(faults_of("a.py", text, "pactkeep", []), [], text[:60])
        for name in ("A.py", "a-b.py", "test_a.py", "len.py", "typing.py", "a.txt", "__main__2.py"):
            self.assertNotEqual(faults_of(name, "", "pactkeep", []), [], name)
