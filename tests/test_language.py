"""The package's files keep to the small part of Python: those of its rules that a short test can see."""

import ast
import builtins
import pathlib
import re
import unittest

PACKAGE = pathlib.Path(__file__).resolve().parent.parent / "ballrockers"

NODES = set("""
Module FunctionDef arguments arg ClassDef Expr Call keyword Assign AugAssign AnnAssign Assert Delete If While For
Return Break Continue Pass Raise Try ExceptHandler ImportFrom alias Import Lambda Starred
Name Attribute Subscript Slice Constant List Tuple Dict Set ListComp DictComp SetComp comprehension
JoinedStr FormattedValue BinOp UnaryOp BoolOp Compare IfExp Load Store Del
Add Sub Mult FloorDiv Mod Pow LShift RShift BitAnd BitOr BitXor Invert USub UAdd Not And Or
Eq NotEq Lt LtE Gt GtE Is IsNot In NotIn
""".split())

OWN_NAMES = set("""
len range enumerate zip min max sum abs sorted reversed int str bool bytes list tuple dict set frozenset isinstance
ord repr any all divmod Exception ValueError TypeError KeyError IndexError LookupError ZeroDivisionError
ArithmeticError OverflowError RuntimeError NotImplementedError AttributeError StopIteration
""".split())

UNDERSCORED = {"__init__", "__eq__", "__repr__", "__str__", "__len__", "__all__", "__version__"}

BANNED_WORDS = re.compile(
    r"\b(type|typing|typing_extensions|enum|Enum|IntEnum|StrEnum|Flag|IntFlag|Generic|Protocol|ABC|ABCMeta|namedtuple"
    r"|NamedTuple|TypedDict|TYPE_CHECKING|abstractmethod)\b|dataclass|overload|contextmanager"
)

BANNED_NAMES = set("""
register mro elements open input version_info with_traceback add_note attrgetter breakpoint builtins compile copyright
credits delattr dir eval exec exit gc getattr globals hasattr help id importlib license locals methodcaller os quit
setattr super type vars format format_map sys chr
""".split())


METHODS = set("""
append clear copy count endswith extend find get index insert isalnum isalpha isdigit islower isspace isupper items join
keys ljust lower lstrip partition pop remove replace reverse rfind rjust rpartition rsplit rstrip setdefault split
splitlines startswith strip update upper values zfill bit_length add discard sort
""".split())

KEYWORDS = {"sorted": {"key", "reverse"}, "min": {"key", "default"}, "max": {"key", "default"}, "sum": {"start"},
            "enumerate": {"start"}, "zip": {"strict"}}

# Walked on the spot: what they stand straight within, else.
WALKED = {"zip", "enumerate", "reversed", "range"}
WALKED_METHODS = {"items", "keys", "values"}
WALKERS = {"list", "tuple", "dict", "sorted", "sum", "any", "all", "enumerate", "zip", "bytes", "min", "max"}

PYTHONS_ERRORS = {"KeyError", "ZeroDivisionError", "StopIteration"}


def sign_wrongs(text):
    """L10, L14, L17: sizes, signs and words."""
    rows = text.split("\n")
    if len(rows) > 401:
        yield "L10 file of more than 400 lines"
    for at, row in enumerate(rows, start=1):
        if len(row) > 120:
            yield f"L10 line {at} of more than 120 signs"
        if any(not " " <= sign <= "~" for sign in row):
            yield f"L14 a strange sign in line {at}"
        if BANNED_WORDS.search(row):
            yield f"L17 a word that mustn't be in line {at}"


def given_names(node):
    """The names that a node binds or asks for."""
    if isinstance(node, ast.Name):
        return [node.id]
    if isinstance(node, ast.Attribute):
        return [node.attr]
    if isinstance(node, (ast.FunctionDef, ast.ClassDef)):
        return [node.name]
    if isinstance(node, ast.arg):
        return [node.arg]
    return []


def name_wrongs(node):
    """L8, L12, L15, L17: names."""
    for name in given_names(node):
        if name.startswith("_") and name not in UNDERSCORED:
            yield f"L12 the name {name}"
        if name in BANNED_NAMES:
            yield f"L17 the name {name}"
        own = hasattr(builtins, name) and name not in UNDERSCORED
        asked = isinstance(node, ast.Name) and isinstance(node.ctx, ast.Load)
        if own and asked and name not in OWN_NAMES:
            yield f"L8 the name {name}"
        if own and not asked and not isinstance(node, ast.Attribute):
            yield f"L15 the name {name} is given anew"


def def_wrongs(node):
    """L4, L5, L10: defs and classes."""
    if node.decorator_list:
        yield f"L4 a decorator at {node.name}"
    if isinstance(node, ast.ClassDef):
        if len(node.bases) > 1 or node.keywords:
            yield f"L5 the bases of {node.name}"
        return
    if node.end_lineno - node.lineno >= 40:
        yield f"L10 {node.name} has more than 40 lines"
    if node.args.vararg or node.args.kwarg or node.args.posonlyargs:
        yield f"L4 the parameters of {node.name}"


def import_wrongs(node):
    """L2, L16: imports."""
    if isinstance(node, ast.Import):
        yield "L16 an import without from"
        return
    names = [alias.name for alias in node.names]
    if node.level or "*" in names:
        yield "L2 a dot or a star"
    if not (node.module or "").startswith("ballrockers.") and node.module != "__future__":
        yield f"L2 drawn from {node.module}"


def value_wrongs(node):
    """L7, L20, L27: values."""
    if isinstance(node, ast.Constant) and isinstance(node.value, (float, complex)):
        yield "L7 a number with a point"
    if isinstance(node, ast.Constant) and isinstance(node.value, str) and "%" in node.value:
        yield "L27 a sign in a text"
    if isinstance(node, ast.Compare) and any(isinstance(sign, (ast.Is, ast.IsNot)) for sign in node.ops):
        sides = [node.left] + node.comparators
        if not any(isinstance(side, ast.Constant) and side.value in (None, True, False) for side in sides):
            yield "L20 is"


def top_wrongs(tree):
    """L3, L15: the top of a file."""
    bound = []
    for at, row in enumerate(tree.body):
        if isinstance(row, (ast.FunctionDef, ast.ClassDef)):
            bound.append(row.name)
        elif isinstance(row, ast.ImportFrom):
            bound += [alias.asname or alias.name for alias in row.names]
        elif isinstance(row, ast.Assign) and len(row.targets) == 1 and isinstance(row.targets[0], ast.Name):
            bound.append(row.targets[0].id)
        elif at or not isinstance(row, ast.Expr) or not isinstance(row.value, ast.Constant):
            yield f"L3 line {row.lineno} at the top"
    if len(bound) != len(set(bound)):
        yield "L15 a name bound twice at the top"


def drawn_names(tree):
    """The names of a file's imports and classes."""
    names = [row.name for row in tree.body if isinstance(row, ast.ClassDef)]
    return names + [alias.name for row in tree.body if isinstance(row, ast.ImportFrom) for alias in row.names]


def local_wrongs(tree):
    """L15: no parameter, no local and no def within a def is called like a class or an import of its file."""
    drawn = drawn_names(tree)
    for whole in ast.walk(tree):
        if not isinstance(whole, ast.FunctionDef):
            continue
        for node in ast.walk(whole):
            given = isinstance(node, (ast.arg, ast.FunctionDef))
            given = given or isinstance(node, ast.Name) and isinstance(node.ctx, ast.Store)
            for name in given_names(node) if given else ():
                if name in drawn:
                    yield f"L15 the local {name} in {whole.name}"


def called_name(node):
    """The name that a call calls straight, None of any other node."""
    return node.func.id if isinstance(node, ast.Call) and isinstance(node.func, ast.Name) else None


def called_method(node):
    """The name of the method that a call calls, None of any other node."""
    return node.func.attr if isinstance(node, ast.Call) and isinstance(node.func, ast.Attribute) else None


def walk_wrongs(tree):
    """L22, L23, L24: keywords at Python's own names, what is walked on the spot, sets."""
    above = {child: node for node in ast.walk(tree) for child in ast.iter_child_nodes(node)}
    for node in ast.walk(tree):
        parent = above.get(node)
        if called_name(node) in OWN_NAMES:
            keywords = {keyword.arg for keyword in node.keywords}
            if not keywords <= KEYWORDS.get(called_name(node), set()):
                yield f"L22 keywords in line {node.lineno}"
        if called_name(node) in WALKED or called_method(node) in WALKED_METHODS:
            walked = isinstance(parent, (ast.For, ast.comprehension)) and parent.iter is node
            if not walked and not (called_name(parent) in WALKERS and node in parent.args[:1]) and called_name(parent) != "zip":
                yield f"L23 kept in line {node.lineno}"
        if isinstance(node, (ast.Set, ast.SetComp)) or called_name(node) in ("set", "frozenset"):
            if called_name(parent) not in ("sorted", "len") and not isinstance(parent, ast.Compare):
                yield f"L24 a set in line {node.lineno}"


def error_wrongs(tree, own_errors):
    """L19: what is taken, and what is raised."""
    for node in ast.walk(tree):
        if isinstance(node, ast.ExceptHandler):
            taken = node.type.elts if isinstance(node.type, ast.Tuple) else [node.type]
            if not all(isinstance(part, ast.Name) and part.id in own_errors | PYTHONS_ERRORS for part in taken):
                yield f"L19 taken in line {node.lineno}"
        if isinstance(node, ast.Raise) and node.exc is not None and called_name(node.exc) not in own_errors:
            yield f"L19 raised in line {node.lineno}"


def value_names(trees):
    """The methods of all classes of the files, and the values that these give their objects."""
    classes = [node for tree in trees for node in ast.walk(tree) if isinstance(node, ast.ClassDef)]
    methods = {part.name for found in classes for part in found.body if isinstance(part, ast.FunctionDef)}
    values = {node.attr for found in classes for node in ast.walk(found)
              if isinstance(node, ast.Attribute) and isinstance(node.ctx, ast.Store)}
    return methods, values


def attribute_wrongs(tree, methods, values):
    """L18, L25: methods and values that are asked for."""
    called = {node.func for node in ast.walk(tree) if isinstance(node, ast.Call)}
    for node in ast.walk(tree):
        if called_method(node) is not None and called_method(node) not in METHODS | methods:
            yield f"L25 the method {called_method(node)} in line {node.lineno}"
        if isinstance(node, ast.Attribute) and node not in called and node.attr not in values:
            yield f"L18 the value {node.attr} in line {node.lineno}"


def wrongs(text):
    """All that is seen to be wrong in a file's text."""
    tree = ast.parse(text)
    told = list(sign_wrongs(text)) + list(top_wrongs(tree)) + list(local_wrongs(tree)) + list(walk_wrongs(tree))
    for node in ast.walk(tree):
        if type(node).__name__ not in NODES:
            told.append(f"L6 L7 {type(node).__name__} in line {getattr(node, 'lineno', '?')}")
        told += name_wrongs(node)
        told += value_wrongs(node)
        if isinstance(node, (ast.FunctionDef, ast.ClassDef)):
            told += def_wrongs(node)
        if isinstance(node, (ast.Import, ast.ImportFrom)):
            told += import_wrongs(node)
    return told


def drawn_rows(path):
    """Of each import of a file: the file that it's drawn from, and its name."""
    for node in ast.walk(ast.parse(path.read_text())):
        if isinstance(node, ast.ImportFrom) and node.module.startswith("ballrockers."):
            for alias in node.names:
                yield node.module.split(".")[1], alias.name


def top_names(path):
    """The names that a file's top binds itself."""
    for row in ast.parse(path.read_text()).body:
        if isinstance(row, (ast.FunctionDef, ast.ClassDef)):
            yield row.name
        elif isinstance(row, ast.Assign):
            yield row.targets[0].id


def draws(path):
    """The package's files that a file draws from, by their names."""
    nodes = ast.walk(ast.parse(path.read_text()))
    modules = [node.module for node in nodes if isinstance(node, ast.ImportFrom)]
    return [module.split(".")[1] for module in modules if module.startswith("ballrockers.")]


class Language(unittest.TestCase):
    def files(self):
        return sorted(path for path in PACKAGE.rglob("*") if "__pycache__" not in path.parts)

    def test_files(self):
        self.assertIn(PACKAGE / "__init__.py", self.files())
        for path in self.files():
            self.assertRegex(path.name, r"^([a-z][a-z0-9_]*|__init__|__main__)\.py$")

    def test_texts(self):
        for path in self.files():
            with self.subTest(path.name):
                self.assertEqual(wrongs(path.read_text(encoding="utf-8")), [])

    def test_methods_and_values(self):
        trees = {path.name: ast.parse(path.read_text()) for path in self.files()}
        methods, values = value_names(trees.values())
        self.assertEqual(methods & values, set())
        for name, tree in trees.items():
            with self.subTest(name):
                self.assertEqual(list(attribute_wrongs(tree, methods, values)), [])
        for text in ("x.format(1)\n", "x.decode()\n", "x.isdecimal()\n", "y = x.many\n", "y = x.append\n"):
            self.assertNotEqual(list(attribute_wrongs(ast.parse(text), methods, values)), [])

    def test_errors(self):
        own_errors = set(top_names(PACKAGE / "errors.py"))
        for path in self.files():
            with self.subTest(path.name):
                self.assertEqual(list(error_wrongs(ast.parse(path.read_text()), own_errors)), [])
        for text in ("raise ValueError()\n", "raise NoRow\n", "try:\n    x()\nexcept Exception:\n    pass\n",
                     "try:\n    x()\nexcept (NoRow, ValueError):\n    pass\n"):
            self.assertNotEqual(list(error_wrongs(ast.parse(text), own_errors)), [])

    def test_no_two_files_draw_from_one_another(self):
        left = {path.stem: draws(path) for path in self.files()}
        while left:
            ready = [name for name in left if not set(left[name]) & set(left)]
            self.assertTrue(ready, f"a circle among {sorted(left)}")
            for name in ready:
                del left[name]

    def test_names_are_drawn_from_the_very_file(self):
        bound = {path.stem: list(top_names(path)) for path in self.files()}
        for path in self.files():
            for file, name in drawn_rows(path):
                self.assertIn(name, bound[file], path.name)

    def test_wrong_texts_are_seen(self):
        for text in (
            "import sys\n", "from os import path\n", "from .boards import is_leans\n", "x = 1\nx = 2\n", "x = 1.5\n",
            "def f(*xs):\n    return xs\n", "def f(x):\n    yield x\n", "def f(x):\n    return all(y for y in x)\n",
            "def f(x):\n    return x / 2\n", "def f(x):\n    return type(x)\n", "def f(_x):\n    return 1\n",
            "def f(x):\n    with x:\n        pass\n", "def f(x):\n    return x is 5\n", "def f(x):\n    return hash(x)\n",
            "def f(min):\n    return 1\n", "# a type\n", "print(1)\n", "x = 'a%b'\n", "x = 1  # " + "a" * 120 + "\n",
            "def f(x):\n    y = zip(x, x)\n    return y\n", "def f(x):\n    return x.items()\n",
            "def f(x):\n    return set(x)\n", "def f(x):\n    return list({y for y in x})\n",
            "def f(x):\n    return list(x, key=1)\n", "def f(x):\n    return reversed(enumerate(x))\n",
            "from ballrockers.runs import told\ndef f(told):\n    return 1\n",
            "from ballrockers.runs import told\ndef f():\n    told = 1\n", "def f():\n" + "    pass\n" * 40, "x = 1\n" * 401, "class A:\n    @staticmethod\n    def f():\n        pass\n",
        ):
            with self.subTest(text[:40]):
                self.assertNotEqual(wrongs(text), [])


if __name__ == "__main__":
    unittest.main()
