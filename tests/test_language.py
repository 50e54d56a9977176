"""The package keeps to the small part of Python that it is written in.

Looked at here is what can be seen file by file and sign by sign: L1 to L8, L10, L12, L14 to L18, L20 to L27,
the most of each, and some of it more narrowly than asked. The rest is left to the reader.
"""

import ast
import builtins
import pathlib
import re
import unittest

PACKAGE = pathlib.Path(__file__).resolve().parent.parent / "twonamed"

NODES = """Module Expr Constant Name Load Store Assign AugAssign If While For Return Break Continue Pass Raise Try
ExceptHandler FunctionDef Lambda arguments arg ClassDef ImportFrom alias Call keyword Attribute Subscript Slice
List Tuple Dict ListComp comprehension BoolOp And Or UnaryOp Not USub UAdd Invert BinOp Add Sub Mult FloorDiv Mod
Pow BitAnd BitOr BitXor LShift RShift Compare Eq NotEq Lt LtE Gt GtE Is IsNot In NotIn IfExp JoinedStr
FormattedValue""".split()

PYTHONS_NAMES = """len range enumerate zip min max sum abs sorted reversed int str bool list tuple dict set frozenset
isinstance ord repr any all divmod Exception ValueError TypeError KeyError IndexError LookupError ZeroDivisionError
ArithmeticError OverflowError RuntimeError NotImplementedError AttributeError StopIteration""".split()

METHODS = """append clear copy count endswith extend find get index insert isalnum isalpha isdigit islower isspace
isupper items join keys ljust lower lstrip partition pop remove replace reverse rfind rjust rpartition rsplit rstrip
setdefault split splitlines startswith strip update upper values zfill bit_length""".split()

WORDS = re.compile(r"\b(type|typing|typing_extensions|enum|Enum|IntEnum|StrEnum|Flag|IntFlag|Generic|Protocol|ABC"
                   r"|ABCMeta|namedtuple|NamedTuple|TypedDict|TYPE_CHECKING|abstractmethod)\b"
                   r"|dataclass|overload|contextmanager")

WALKED = ("zip", "enumerate", "reversed", "range")
WALKED_METHODS = ("items", "keys", "values")
WALKING = ("list", "tuple", "dict", "sorted", "sum", "any", "all", "enumerate", "zip")
KEYWORDS = {"sorted": ("key", "reverse"), "min": ("key", "default"), "max": ("key", "default"), "sum": ("start",),
            "enumerate": ("start",), "zip": ("strict",)}
READING = ("len", "list", "dict", "tuple", "sorted")
FREE_METHODS = METHODS + ["add", "discard"]
FREE_VALUES = "count index title find get join lower upper split strip copy add".split()

TOP_NODES = (ast.ImportFrom, ast.FunctionDef, ast.ClassDef, ast.Assign)
PLAIN_NAME = re.compile(r"[A-Za-z][A-Za-z0-9_]*")
SPECIAL_NAMES = ("__init__", "__eq__", "__repr__", "__str__", "__len__")


def faults_of_text(text):
    lines = text.split("\n")
    found = ["L10 long file"] if len(lines) > 401 else []
    found += ["L10 long line" for line in lines if len(line) > 120]
    found += ["L14 sign" for sign in text if sign != "\n" and not " " <= sign <= "~"]
    return found + ["L17 word" for _ in WORDS.finditer(text)]


def is_docstring(node):
    return isinstance(node, ast.Expr) and isinstance(node.value, ast.Constant) and isinstance(node.value.value, str)


def faults_of_top(tree):
    found = []
    for place, node in enumerate(tree.body):
        if not isinstance(node, TOP_NODES) and not (place == 0 and is_docstring(node)):
            found.append("L3 top")
    names = [target.id for node in tree.body if isinstance(node, ast.Assign) for target in node.targets]
    names += [node.name for node in tree.body if isinstance(node, (ast.FunctionDef, ast.ClassDef))]
    return found + ["L15 bound twice"] * (len(names) - len(set(names)))


def faults_of_import(node):
    if node.level or not node.module.startswith("twonamed."):
        return ["L2 import"]
    return ["L2 import" for name in node.names if name.name == "*"]


def faults_of_function(node):
    args = node.args
    found = ["L4 parameters"] if args.vararg or args.kwarg or args.kwonlyargs or args.posonlyargs else []
    if isinstance(node, ast.Lambda):
        return found
    found += ["L4 decorator"] if node.decorator_list else []
    found += ["L21 annotation"] if node.returns or [arg for arg in args.args if arg.annotation] else []
    return found + (["L10 long function"] if node.end_lineno - node.lineno >= 40 else [])


def faults_of_name(name):
    if name in SPECIAL_NAMES or PLAIN_NAME.fullmatch(name):
        return []
    return ["L12 name"]


def faults_of_value(value):
    if isinstance(value, (float, complex, bytes)) or value is ...:
        return ["L7 value"]
    return ["L27 sign"] if isinstance(value, str) and "%" in value else []


def faults_of_node(node):
    found = [] if type(node).__name__ in NODES else ["L6 L7 " + type(node).__name__]
    if isinstance(node, ast.ImportFrom):
        found += faults_of_import(node)
    if isinstance(node, (ast.FunctionDef, ast.Lambda)):
        found += faults_of_function(node)
    if isinstance(node, (ast.FunctionDef, ast.ClassDef)):
        found += faults_of_name(node.name)
    if isinstance(node, ast.ClassDef) and (node.decorator_list or node.keywords or len(node.bases) > 1):
        found.append("L5 class")
    if isinstance(node, ast.arg):
        found += faults_of_name(node.arg) + (["L15 name"] if hasattr(builtins, node.arg) else [])
    if isinstance(node, ast.Name):
        found += faults_of_name(node.id)
        found += ["L8 name"] if hasattr(builtins, node.id) and node.id not in PYTHONS_NAMES else []
        found += ["L15 name"] if hasattr(builtins, node.id) and isinstance(node.ctx, ast.Store) else []
    if isinstance(node, ast.Assign) and len(node.targets) > 1:
        found.append("L6 targets")
    if isinstance(node, (ast.For, ast.While)) and node.orelse:
        found.append("L6 else")
    if isinstance(node, ast.ListComp) and (len(node.generators) > 1 or len(node.generators[0].ifs) > 1):
        found.append("L7 comprehension")
    if isinstance(node, ast.Compare) and isinstance(node.ops[0], (ast.Is, ast.IsNot)):
        found += [] if isinstance(node.comparators[0], ast.Constant) else ["L20 is"]
    if isinstance(node, ast.Constant):
        found += faults_of_value(node.value)
    return found


def own_methods(tree):
    return [part.name for node in tree.body if isinstance(node, ast.ClassDef) for part in node.body
            if isinstance(part, ast.FunctionDef)]


def own_values(tree):
    return [node.attr for node in ast.walk(tree) if isinstance(node, ast.Attribute) and isinstance(node.ctx, ast.Store)]


def faults_of_methods(tree, methods):
    called = [node.func.attr for node in ast.walk(tree)
              if isinstance(node, ast.Call) and isinstance(node.func, ast.Attribute)]
    return ["L25 method" for name in called if name not in METHODS and name not in methods]


def faults_of_own_names(tree):
    pythons = [name for kind in (str, int, list, dict, set, bytes, tuple) for name in dir(kind)]
    found = ["L26 method" for name in own_methods(tree)
             if name in pythons and name not in FREE_METHODS and name not in SPECIAL_NAMES]
    return found + ["L26 value" for name in own_values(tree) if name in pythons and name not in FREE_VALUES]


def faults_of_locals(tree):
    taken = [name.name for node in tree.body if isinstance(node, ast.ImportFrom) for name in node.names]
    taken += [node.name for node in tree.body if isinstance(node, ast.ClassDef)]
    bound = [node.id for node in ast.walk(tree) if isinstance(node, ast.Name) and isinstance(node.ctx, ast.Store)]
    bound += [node.arg for node in ast.walk(tree) if isinstance(node, ast.arg)]
    return ["L15 local" for name in bound if name in taken]


def called_name(node):
    if isinstance(node, ast.Call) and isinstance(node.func, ast.Name):
        return node.func.id
    return None


def is_walk(node):
    if isinstance(node, ast.Call) and isinstance(node.func, ast.Attribute):
        return node.func.attr in WALKED_METHODS
    return called_name(node) in WALKED


def is_walked_by(node, parent):
    if isinstance(parent, (ast.For, ast.comprehension)):
        return parent.iter is node
    if called_name(parent) in WALKING:
        return parent.args[0] is node or called_name(parent) == "zip"
    return called_name(parent) in ("min", "max") and len(parent.args) == 1


def is_read_by(node, parent):
    if isinstance(parent, ast.Subscript):
        return parent.value is node and isinstance(parent.ctx, ast.Load)
    if isinstance(parent, (ast.For, ast.comprehension, ast.Compare)):
        return True
    if isinstance(parent, ast.Attribute):
        return parent.attr in ("get", "index", "count") + WALKED_METHODS
    return called_name(parent) in READING


def kept_at_top(tree):
    return [node.targets[0].id for node in tree.body
            if isinstance(node, ast.Assign) and isinstance(node.value, (ast.List, ast.Dict))]


def faults_of_pair(node, parent, kept):
    found = ["L23 walk"] if is_walk(node) and not is_walked_by(node, parent) else []
    if isinstance(node, ast.Name) and isinstance(node.ctx, ast.Load) and node.id in kept:
        found += [] if is_read_by(node, parent) else ["L15 kept"]
    if isinstance(node, ast.keyword):
        found += [] if node.arg in KEYWORDS.get(called_name(parent), ()) else ["L22 keyword"]
    if isinstance(node, ast.Name) and node.id in PYTHONS_NAMES and isinstance(parent, ast.keyword):
        found += [] if node.id in "len int str abs sum min max tuple".split() else ["L22 key"]
    if isinstance(node, ast.Name) and node.id in ("set", "frozenset"):
        found.append("L24 set")
    if isinstance(node, ast.Pow):
        right = parent.right
        found += [] if isinstance(right, ast.Constant) and 0 <= right.value <= 64 else ["L27 power"]
    return found


def faults(text, methods=()):
    tree = ast.parse(text)
    found = faults_of_text(text) + faults_of_top(tree) + faults_of_methods(tree, list(methods) + own_methods(tree))
    found += faults_of_own_names(tree) + faults_of_locals(tree)
    for node in ast.walk(tree):
        found += faults_of_node(node)
        for child in ast.iter_child_nodes(node):
            found += faults_of_pair(child, node, kept_at_top(tree))
    return found


def drawn_from(tree):
    return [node.module.split(".")[1] for node in tree.body if isinstance(node, ast.ImportFrom)]


def defined(tree):
    names = [node.name for node in tree.body if isinstance(node, (ast.FunctionDef, ast.ClassDef))]
    return names + [target.id for node in tree.body if isinstance(node, ast.Assign) for target in node.targets]


class Language(unittest.TestCase):
    def files(self):
        return [path for path in sorted(PACKAGE.iterdir()) if path.name != "__pycache__"]

    def trees(self):
        return dict([(path.stem, ast.parse(path.read_text(encoding="utf-8"))) for path in self.files()])

    def test_the_folder_holds_plain_files_alone(self):
        self.assertTrue((PACKAGE / "__init__.py").is_file())
        for path in self.files():
            self.assertTrue(path.is_file(), path)
            self.assertRegex(path.name, r"^([a-z][a-z0-9_]*|__init__|__main__)\.py$")
            self.assertNotIn(path.stem, [name for name in dir(builtins) if not name.startswith("_")])

    def test_the_files_keep_to_the_rules(self):
        methods = [name for tree in self.trees().values() for name in own_methods(tree)]
        for path in self.files():
            self.assertEqual(faults(path.read_text(encoding="utf-8"), methods), [], path)

    def test_no_name_is_a_method_and_a_value(self):
        trees = self.trees().values()
        methods = [name for tree in trees for name in own_methods(tree)]
        self.assertEqual([name for tree in trees for name in own_values(tree) if name in methods], [])

    def test_names_are_drawn_from_where_they_are_defined(self):
        trees = self.trees()
        for tree in trees.values():
            for node in tree.body:
                if isinstance(node, ast.ImportFrom):
                    for name in node.names:
                        self.assertIn(name.name, defined(trees[node.module.split(".")[1]]))

    def test_no_two_files_draw_from_one_another(self):
        left = dict([(name, drawn_from(tree)) for name, tree in self.trees().items()])
        while left:
            free = [name for name in left if not [other for other in left[name] if other in left]]
            self.assertNotEqual(free, [], left)
            for name in free:
                left.pop(name)

    def test_faults_are_found(self):
        for text in ("import os\n", "from .things import is_row\n", "x = 1\nx = 2\n", "print(1)\n", "x = 1.5\n",
                     "def f(*a):\n    return a\n", "def f(a: int):\n    return a\n", "x = {k: 1 for k in (1,)}\n",
                     "def f(a):\n    return a is a\n", "def f(a):\n    return a.title()\n", "# a type\n", "#\t\n",
                     "x = '%'\n", "def f(id):\n    return id\n", "def f(a):\n    assert a\n",
                     "def f(a):\n    return any(k for k in a)\n", "_x = 1\n", "x = '" + "a" * 120 + "'\n",
                     "def f(a):\n    return getattr(a, 'b')\n", "def f():\n" + "    pass\n" * 40,
                     "def f(a):\n    return range(a)\n", "def f(a):\n    b = a.items()\n    return 1\n",
                     "X = {1: 2}\ndef f():\n    return X\n", "X = [1]\ndef f():\n    X.append(2)\n",
                     "X = [1]\ndef f():\n    X[0] = 2\n", "def f(a):\n    return g(a, b=1)\n",
                     "def f(a):\n    return set(a)\n", "def f(a):\n    return 2 ** a\n",
                     "from twonamed.things import is_row\ndef f(is_row):\n    return is_row\n",
                     "class A:\n    def title(self):\n        pass\n",
                     "class A:\n    def __init__(self):\n        self.items = 1\n"):
            self.assertNotEqual(faults(text), [], text)
        self.assertEqual(faults("def f():\n" + "    pass\n" * 39), [])


if __name__ == "__main__":
    unittest.main()
