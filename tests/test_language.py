"""Looks at the package's files by a part of the rules of LANGUAGE.md: those that are named at each look."""

import ast
import builtins
import re
import unittest
from pathlib import Path

ROOT = Path(__file__).resolve().parent.parent
PACKAGE = ROOT / "shearfloor"

NODES = (
    "Module Expr Constant ImportFrom alias FunctionDef arguments arg Lambda ClassDef Assign AugAssign If While For "
    "Return Break Continue Pass Raise Try ExceptHandler Call List Tuple Dict Set Name Load Store Attribute Subscript "
    "Slice BinOp Add Sub Mult FloorDiv Mod Pow LShift RShift BitOr BitXor BitAnd UnaryOp USub UAdd Invert Not BoolOp "
    "And Or Compare Eq NotEq Lt LtE Gt GtE Is IsNot In NotIn IfExp ListComp comprehension JoinedStr FormattedValue "
    "keyword"
).split()
OWN_NAMES = (
    "len range enumerate zip min max sum abs sorted reversed int str bool list tuple dict set frozenset isinstance "
    "ord repr any all divmod Exception ValueError TypeError KeyError IndexError LookupError ZeroDivisionError "
    "ArithmeticError OverflowError RuntimeError NotImplementedError AttributeError StopIteration"
).split()
METHODS = (
    "append clear copy count endswith extend find get index insert isalnum isalpha isdigit islower isspace isupper "
    "items join keys ljust lower lstrip partition pop remove replace reverse rfind rjust rpartition rsplit rstrip "
    "setdefault split splitlines startswith strip update upper values zfill bit_length"
).split()
SPECIAL = ("__init__", "__eq__", "__repr__", "__str__", "__len__")
WORDS = (
    r"\b(type|typing|typing_extensions|enum|Enum|IntEnum|StrEnum|Flag|IntFlag|Generic|Protocol|ABC|ABCMeta|namedtuple"
    r"|NamedTuple|TypedDict|TYPE_CHECKING|abstractmethod)\b|dataclass|overload|contextmanager"
)
BARRED = (
    "register mro elements open input version_info with_traceback add_note format format_map attrgetter breakpoint "
    "builtins compile copyright credits delattr dir eval exec exit gc getattr globals hasattr help id importlib "
    "license locals methodcaller os quit setattr super type vars sys chr"
).split()
PYTHONS_OWN = [name for name in vars(builtins) if not name.startswith("_")]
KINDS_OWN = [name for kind in (str, int, list, tuple, dict, set, bytes) for name in dir(kind)]
FREE_VALUES = "count index title find get join lower upper split strip copy add".split()
WALKED = ("zip", "enumerate", "reversed", "range", "items", "keys", "values")
WALKERS = ("list", "tuple", "dict", "sorted", "sum", "any", "all", "enumerate", "zip", "min", "max")


def called_name(node):
    if isinstance(node, ast.Call) and isinstance(node.func, ast.Name):
        return node.func.id
    if isinstance(node, ast.Call) and isinstance(node.func, ast.Attribute):
        return node.func.attr
    return None


def is_truth_or_none(node):
    return isinstance(node, ast.Constant) and (node.value is None or isinstance(node.value, bool))


def look_signs(source):
    """L10, L14, L17, L27: rows, signs and words."""
    rows = source.split("\n")
    amiss = [("L10", "a long file")] if len(rows) > 401 else []
    amiss += [("L10", row) for row in rows if len(row) > 120]
    amiss += [("L14", repr(sign)) for sign in sorted(set(source)) if sign != "\n" and not " " <= sign <= "~"]
    amiss += [("L17", found.group()) for found in re.finditer(WORDS, source)]
    return amiss


def look_nodes(tree):
    """L4 to L8, L20, L21, L27: what stands in the file."""
    amiss = []
    for node in ast.walk(tree):
        kind = type(node).__name__
        if kind not in NODES:
            amiss.append(("L6/L7", kind))
        if kind == "Constant" and type(node.value) not in (int, str, bool, type(None)):
            amiss.append(("L7", repr(node.value)))
        if kind == "Constant" and isinstance(node.value, str) and "%" in node.value:
            amiss.append(("L27", repr(node.value)))
        if kind == "Assign" and (len(node.targets) != 1 or isinstance(node.targets[0], (ast.Tuple, ast.List))):
            amiss.append(("L6", "targets"))
        if kind in ("For", "While") and node.orelse:
            amiss.append(("L6", "else behind a loop"))
        if kind == "Try" and node.finalbody:
            amiss.append(("L6", "finally"))
        if kind == "ListComp" and (len(node.generators) != 1 or len(node.generators[0].ifs) > 1):
            amiss.append(("L7", "comprehension"))
        if kind == "Compare" and any(isinstance(op, (ast.Is, ast.IsNot)) for op in node.ops):
            if not all(is_truth_or_none(side) for side in node.comparators):
                amiss.append(("L20", "is"))
        if kind == "BinOp" and isinstance(node.op, ast.Pow) and not isinstance(node.right, ast.Constant):
            amiss.append(("L27", "**"))
        if kind == "ExceptHandler" and node.type is None:
            amiss.append(("L6", "except of no name"))
    return amiss


def look_defs(tree):
    """L4, L5, L10, L21: functions and classes."""
    amiss = []
    for node in ast.walk(tree):
        if isinstance(node, ast.FunctionDef):
            given = node.args
            if given.vararg or given.kwarg or given.kwonlyargs or given.posonlyargs or node.decorator_list:
                amiss.append(("L4", node.name))
            if node.returns or any(arg.annotation for arg in given.args):
                amiss.append(("L21", node.name))
            if node.end_lineno - node.lineno + 1 > 40:
                amiss.append(("L10", node.name))
        if isinstance(node, ast.ClassDef):
            if len(node.bases) > 1 or node.keywords or node.decorator_list or node not in tree.body:
                amiss.append(("L5", node.name))
            for part in node.body:
                is_text = isinstance(part, ast.Expr) and isinstance(part.value, ast.Constant)
                if not (is_text or isinstance(part, (ast.FunctionDef, ast.Pass))):
                    amiss.append(("L5", node.name))
    return amiss


def bound_names(tree):
    names = []
    for node in ast.walk(tree):
        if isinstance(node, ast.Name) and isinstance(node.ctx, ast.Store):
            names.append(node.id)
        elif isinstance(node, ast.arg):
            names.append(node.arg)
        elif isinstance(node, (ast.FunctionDef, ast.ClassDef)):
            names.append(node.name)
        elif isinstance(node, ast.ExceptHandler) and node.name:
            names.append(node.name)
        elif isinstance(node, ast.alias):
            names.append(node.asname or node.name)
    return names


def top_names(tree):
    names = []
    for node in tree.body:
        if isinstance(node, (ast.FunctionDef, ast.ClassDef)):
            names.append(node.name)
        elif isinstance(node, ast.ImportFrom):
            names += [part.asname or part.name for part in node.names]
        elif isinstance(node, ast.Assign):
            names += [target.id for target in node.targets]
    return names


def look_names(tree):
    """L8, L12, L15, L17: names that are bound and read."""
    amiss = []
    bound = bound_names(tree)
    for name in bound:
        if name not in SPECIAL and not re.fullmatch(r"[A-Za-z][A-Za-z0-9_]*", name):
            amiss.append(("L12", name))
        if name in PYTHONS_OWN or name in BARRED:
            amiss.append(("L15/L17", name))
    at_top = top_names(tree)
    amiss += [("L15", name) for name in at_top if at_top.count(name) > 1]
    drawn = [part.name for node in tree.body if isinstance(node, ast.ImportFrom) for part in node.names]
    drawn += [node.name for node in tree.body if isinstance(node, ast.ClassDef)]
    amiss += [("L15", name) for name in drawn if bound.count(name) > 1]
    for node in ast.walk(tree):
        if isinstance(node, ast.Name) and node.id not in bound and node.id not in OWN_NAMES:
            amiss.append(("L8", node.id))
        if isinstance(node, ast.Attribute) and node.attr in BARRED:
            amiss.append(("L17", node.attr))
    return amiss


def look_calls(tree, own_methods):
    """L22 to L25: how Python's own are called."""
    amiss = []
    walked = []
    for node in ast.walk(tree):
        if isinstance(node, (ast.For, ast.comprehension)):
            walked.append(node.iter)
        if called_name(node) in WALKERS + ("join",):
            walked += node.args[:1] if called_name(node) != "zip" else node.args
    called = [node.func for node in ast.walk(tree) if isinstance(node, ast.Call)]
    for node in ast.walk(tree):
        if called_name(node) in WALKED and node not in walked:
            amiss.append(("L23", called_name(node)))
        if called_name(node) in ("set", "frozenset") or isinstance(node, (ast.Set, ast.SetComp)):
            # Narrower than the rule, which lets a few sets by: a dict of True serves as well.
            amiss.append(("L24", "a set"))
        if isinstance(node, ast.Attribute) and node in called:
            if node.attr not in METHODS and node.attr not in SPECIAL and node.attr not in own_methods:
                amiss.append(("L25", node.attr))
    return amiss


def look_top(tree, name):
    """L2, L3, L16: the top of the file."""
    amiss = []
    for node in tree.body:
        is_text = isinstance(node, ast.Expr) and isinstance(node.value, ast.Constant)
        if not (is_text or isinstance(node, (ast.ImportFrom, ast.FunctionDef, ast.ClassDef, ast.Assign))):
            amiss.append(("L3", name))
        if isinstance(node, ast.Assign) and any(isinstance(part, ast.Call) for part in ast.walk(node.value)):
            amiss.append(("L3", name))
    for node in ast.walk(tree):
        if isinstance(node, ast.ImportFrom):
            if node.level or not (node.module or "").startswith("shearfloor.") or node not in tree.body:
                amiss.append(("L2", name))
    return amiss


def own_methods_of(trees):
    classes = [node for tree in trees for node in ast.walk(tree) if isinstance(node, ast.ClassDef)]
    return [part.name for node in classes for part in node.body if isinstance(part, ast.FunctionDef)]


def values_of(node):
    """The names of the values that a class's methods give to self."""
    stored = [part for part in ast.walk(node) if isinstance(part, ast.Attribute) and isinstance(part.ctx, ast.Store)]
    return [part.attr for part in stored if isinstance(part.value, ast.Name) and part.value.id == "self"]


def look_classes(trees):
    """L18, L26, L28: methods and values of all classes together."""
    classes = [node for tree in trees for node in ast.walk(tree) if isinstance(node, ast.ClassDef)]
    methods = [name for name in own_methods_of(trees) if name not in SPECIAL]
    values = [name for node in classes for name in values_of(node)]
    amiss = [("L18", name) for name in methods if name in values]
    amiss += [("L26", name) for name in methods if name in KINDS_OWN and name not in METHODS + ["add", "discard"]]
    amiss += [("L26", name) for name in values if name in KINDS_OWN + ["args"] and name not in FREE_VALUES]
    for node in classes:
        names = [part.name for part in node.body if isinstance(part, ast.FunctionDef)]
        amiss += [("L18", name) for name in names if names.count(name) > 1]
        for part in node.body:
            if isinstance(part, ast.FunctionDef) and part.name == "__init__":
                amiss += [("L28", node.name) for row in ast.walk(part) if isinstance(row, ast.Return)]
    return amiss


def look_source(source, name="file", own_methods=()):
    tree = ast.parse(source)
    return (
        look_signs(source) + look_nodes(tree) + look_defs(tree) + look_names(tree)
        + look_calls(tree, own_methods) + look_top(tree, name)
    )


def draws_of(source):
    return [node.module.split(".")[1] for node in ast.parse(source).body if isinstance(node, ast.ImportFrom)]


class Language(unittest.TestCase):
    def setUp(self):
        self.sources = {path.stem: path.read_text("utf-8") for path in sorted(PACKAGE.glob("*.py"))}

    def test_the_package_holds_plain_files_alone(self):
        for path in PACKAGE.iterdir():
            if path.name != "__pycache__":
                self.assertRegex(path.name, r"^([a-z][a-z0-9_]*|__init__|__main__)\.py$")
                self.assertNotIn(path.stem, PYTHONS_OWN)
        self.assertIn("__init__", self.sources)

    def test_each_file_keeps_to_the_rules(self):
        own_methods = own_methods_of([ast.parse(source) for source in self.sources.values()])
        for name, source in self.sources.items():
            self.assertEqual(look_source(source, name, own_methods), [], name)

    def test_classes_keep_to_the_rules(self):
        self.assertEqual(look_classes([ast.parse(source) for source in self.sources.values()]), [])

    def test_names_are_drawn_from_the_file_that_defines_them(self):
        for source in self.sources.values():
            for node in ast.parse(source).body:
                if isinstance(node, ast.ImportFrom):
                    other = ast.parse(self.sources[node.module.split(".")[1]])
                    defined = set(top_names(other)) - set(
                        part.name for row in other.body if isinstance(row, ast.ImportFrom) for part in row.names
                    )
                    self.assertLessEqual({part.name for part in node.names}, defined)

    def test_no_two_files_draw_from_one_another(self):
        left = {name: set(draws_of(source)) for name, source in self.sources.items()}
        while left:
            free = [name for name in left if not left[name] & set(left)]
            self.assertTrue(free, sorted(left))
            for name in free:
                del left[name]

    def test_the_looks_see_what_is_outside(self):
        outside = (
            "import os\n", "x = 1.5\n", "x = 3 / 2\n", "def f(*a):\n    return a\n", "x = {k for k in (1,)}\n",
            "def f(x):\n    a, b = x\n    return a\n", "def f(x):\n    assert x\n", "from .a import b\n",
            "def f(x):\n    return x.sort()\n", "def f(x):\n    return x is 'a'\n", "x = '\\x41'\ny = '%'\n",
            "def f(list):\n    return list\n", "def f(_x):\n    return 1\n", "# type\n", "x = len('a')\n",
            "def f(x):\n    return getattr(x, 'a')\n", "def f(x):\n    y = range(x)\n    return y\n",
            "x = 1\nx = 2\n", "def f():\n\treturn 1\n", "x = 'caf\u00e9'\n",
        )
        for source in outside:
            self.assertNotEqual(look_source(source), [], source)
        classes = (
            "class A:\n    def __init__(self):\n        self.items = 1\n",
            "class A:\n    def __init__(self):\n        return None\n",
            "class A:\n    def sort(self):\n        return 1\n",
            "class A:\n    def say(self):\n        self.say = 1\n",
            "class A:\n    def say(self):\n        return 1\n\n    def say(self):\n        return 2\n",
        )
        for source in classes:
            self.assertNotEqual(look_classes([ast.parse(source)]), [], source)


if __name__ == "__main__":
    unittest.main()
