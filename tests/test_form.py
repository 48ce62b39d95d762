"""The form of the package's own files: a part of the rules of the language, those that are plain to see."""

import ast
import builtins
import pathlib
import re
import unittest

PACKAGE = pathlib.Path(__file__).resolve().parent.parent / "glazebench"

STATEMENTS = (ast.Assign, ast.AugAssign, ast.If, ast.While, ast.For, ast.Return, ast.Break, ast.Continue, ast.Pass,
              ast.Raise, ast.Try, ast.Expr, ast.FunctionDef, ast.ClassDef, ast.ImportFrom)
EXPRESSIONS = (ast.Constant, ast.Name, ast.List, ast.Tuple, ast.Dict, ast.Set, ast.BinOp, ast.UnaryOp, ast.BoolOp,
               ast.Compare, ast.IfExp, ast.Call, ast.Attribute, ast.Subscript, ast.Slice, ast.ListComp, ast.Lambda,
               ast.JoinedStr, ast.FormattedValue)
OWN_NAMES = set("""len range enumerate zip min max sum abs sorted reversed int str bool list tuple dict set frozenset
isinstance ord repr any all divmod Exception ValueError TypeError KeyError IndexError LookupError ZeroDivisionError
ArithmeticError OverflowError RuntimeError NotImplementedError AttributeError StopIteration""".split())
OWN_METHODS = set("""append clear copy count endswith extend find get index insert isalnum isalpha isdigit islower
isspace isupper items join keys ljust lower lstrip partition pop remove replace reverse rfind rjust rpartition rsplit
rstrip setdefault split splitlines startswith strip update upper values zfill bit_length""".split())
NO_VALUES = set("""items keys values pop update append clear extend insert remove reverse setdefault sort args encode
format""".split())
TWO_UNDERSCORES = ("__init__", "__eq__", "__repr__", "__str__", "__len__")
NEVER = set("""register mro elements open input version_info with_traceback add_note attrgetter breakpoint builtins
compile copyright credits delattr dir eval exec exit gc getattr globals hasattr help id importlib license locals
methodcaller os quit setattr super vars sys chr format format_map""".split())
NO_WORDS = re.compile(r"\b(type|typing|typing_extensions|enum|Enum|IntEnum|StrEnum|Flag|IntFlag|Generic|Protocol|ABC"
                      r"|ABCMeta|namedtuple|NamedTuple|TypedDict|TYPE_CHECKING|abstractmethod)\b"
                      r"|dataclass|overload|contextmanager")
NO_FILES = re.compile(r"(test|tests|testing|test_.*|site|conftest|sitecustomize|usercustomize)$")


KEYWORDS = {"sorted": ("key", "reverse"), "min": ("key", "default"), "max": ("key", "default"), "sum": ("start",),
            "enumerate": ("start",), "zip": ("strict",)}


def top_names(tree):
    names = []
    for node in tree.body:
        if isinstance(node, (ast.FunctionDef, ast.ClassDef)):
            names.append(node.name)
        elif isinstance(node, ast.Assign):
            names += [target.id for target in node.targets if isinstance(target, ast.Name)]
    return names


def file_faults(name, text):
    """L1, L10, L14, L17 of the file as a text."""
    if not re.fullmatch(r"([a-z][a-z0-9_]*|__init__|__main__)\.py", name):
        yield 0, "L14 file name"
    stem = name.partition(".")[0]
    like_python = hasattr(builtins, stem) and stem not in ("__init__", "__main__")
    if like_python or NO_FILES.match(stem) or NO_WORDS.fullmatch(stem):
        yield 0, "L14 file name"
    lines = text.split("\n")
    if len(lines) > 401:
        yield 0, "L10 file of more than 400 lines"
    for number, line in enumerate(lines, start=1):
        if len(line) > 120:
            yield number, "L10 line"
        if re.search(r"[^ -~]", line):
            yield number, "L14 sign"
        if NO_WORDS.search(line):
            yield number, "L17 word"


def is_plain(node):
    if isinstance(node, (ast.List, ast.Tuple)):
        return all(is_plain(part) for part in node.elts)
    if isinstance(node, ast.Dict):
        return all(is_plain(part) for part in node.keys + node.values)
    if isinstance(node, ast.UnaryOp):
        return is_plain(node.operand)
    return isinstance(node, (ast.Constant, ast.Name))


def top_faults(tree):
    """L2, L3, L15, L16 at the top of a file."""
    for place, node in enumerate(tree.body):
        docstring = place == 0 and isinstance(node, ast.Expr) and isinstance(node.value, ast.Constant)
        assigned = isinstance(node, ast.Assign) and isinstance(node.targets[0], ast.Name) and is_plain(node.value)
        if not docstring and not assigned and not isinstance(node, (ast.FunctionDef, ast.ClassDef, ast.ImportFrom)):
            yield node.lineno, "L3 top of a file"
    imported = [alias.name for node in tree.body if isinstance(node, ast.ImportFrom) for alias in node.names]
    bound = top_names(tree) + imported
    if len(bound) != len(set(bound)):
        yield 0, "L15 name bound twice"
    inner = [node for part in tree.body for node in ast.walk(part) if node is not part]
    for node in inner:
        if isinstance(node, (ast.ImportFrom, ast.ClassDef)):
            yield node.lineno, "L2, L15 not at the top"
    taken = [node.name for node in tree.body if isinstance(node, ast.ClassDef)] + imported
    for node in inner:
        local = node.arg if isinstance(node, ast.arg) else None
        if isinstance(node, ast.Name) and isinstance(node.ctx, ast.Store):
            local = node.id
        if local in taken or (local and hasattr(builtins, local)):
            yield node.lineno, "L15 local name " + local


def def_faults(node):
    """L4, L5, L10, L12 of a function or a class."""
    if node.decorator_list:
        yield node.lineno, "L4 decorator"
    if isinstance(node, ast.FunctionDef):
        if node.args.vararg or node.args.kwarg or node.args.kwonlyargs or node.args.posonlyargs:
            yield node.lineno, "L4 parameters"
        if node.end_lineno - node.lineno >= 40:
            yield node.lineno, "L10 function of more than 40 lines"
        if node.name.startswith("_") and node.name not in TWO_UNDERSCORES:
            yield node.lineno, "L12 name"
        return
    if len(node.bases) > 1 or node.keywords:
        yield node.lineno, "L5 bases"
    for part in node.body:
        if not isinstance(part, (ast.FunctionDef, ast.Pass)):
            yield part.lineno, "L5 class body"


def name_faults(node, word):
    if word.startswith("_") and word not in TWO_UNDERSCORES:
        yield node.lineno, "L12 name " + word
    if word in NEVER:
        yield node.lineno, "L17 name " + word
    if isinstance(node, ast.Name) and hasattr(builtins, word) and word not in OWN_NAMES:
        yield node.lineno, "L8 name " + word


def constant_faults(node):
    if node.value is not None and not isinstance(node.value, (int, str)):
        yield node.lineno, "L7 value"
    if isinstance(node.value, str) and "%" in node.value:
        yield node.lineno, "L27 sign in a text"


def expression_faults(node):
    """L7, L8, L12, L17, L20, L26, L27 of one expression."""
    if isinstance(node, ast.Constant):
        yield from constant_faults(node)
    elif isinstance(node, ast.Name):
        yield from name_faults(node, node.id)
    elif isinstance(node, ast.Attribute):
        yield from name_faults(node, node.attr)
        if isinstance(node.ctx, ast.Store) and node.attr in NO_VALUES:
            yield node.lineno, "L26 value " + node.attr
    elif isinstance(node, ast.ListComp) and (len(node.generators) > 1 or len(node.generators[0].ifs) > 1):
        yield node.lineno, "L7 comprehension"
    elif isinstance(node, ast.BinOp) and isinstance(node.op, (ast.Div, ast.MatMult)):
        yield node.lineno, "L7 sign"
    elif isinstance(node, ast.Compare) and any(isinstance(op, (ast.Is, ast.IsNot)) for op in node.ops):
        if not all(isinstance(part, ast.Constant) for part in node.comparators):
            yield node.lineno, "L20 is"


def is_python_walk(node):
    """Whether this is a call of something that is to be walked at once."""
    if not isinstance(node, ast.Call):
        return False
    if isinstance(node.func, ast.Name):
        return node.func.id in ("zip", "enumerate", "reversed", "range")
    return isinstance(node.func, ast.Attribute) and node.func.attr in ("items", "keys", "values")


def walks_at_once(parent, node):
    if isinstance(parent, (ast.For, ast.comprehension)):
        return parent.iter is node
    if not isinstance(parent, ast.Call) or not parent.args or parent.args[0] is not node:
        return False
    if isinstance(parent.func, ast.Attribute):
        return parent.func.attr == "join" and isinstance(parent.func.value, ast.Constant)
    if parent.func.id in ("min", "max"):
        return len(parent.args) == 1
    return parent.func.id in ("list", "tuple", "dict", "sorted", "sum", "any", "all", "enumerate", "zip")


def shows_class(parent, node):
    """Whether a class stands here where one may: called, as a base, by isinstance, except or raise."""
    if isinstance(parent, ast.Call):
        asked = isinstance(parent.func, ast.Name) and parent.func.id == "isinstance"
        return parent.func is node or asked
    return isinstance(parent, (ast.ClassDef, ast.ExceptHandler, ast.Raise, ast.Attribute, ast.Tuple))


def call_faults(node):
    """L22: keywords at Python's own names."""
    if not isinstance(node.func, ast.Name) or not hasattr(builtins, node.func.id):
        return
    for keyword in node.keywords:
        if keyword.arg not in KEYWORDS.get(node.func.id, ()):
            yield node.lineno, "L22 keyword"


def placed_faults(tree):
    """L18, L21, L22, L23: what hangs on where a thing stands."""
    classes = [node.name for node in tree.body if isinstance(node, ast.ClassDef)]
    classes += [alias.name for node in tree.body if isinstance(node, ast.ImportFrom) for alias in node.names
                if re.match("[A-Z][A-Za-z]*[a-z]", alias.name)]
    for parent in ast.walk(tree):
        if isinstance(parent, ast.Call):
            yield from call_faults(parent)
        if isinstance(parent, ast.arg) and parent.annotation or isinstance(parent, ast.FunctionDef) and parent.returns:
            yield parent.lineno, "L21 annotation"
        for node in ast.iter_child_nodes(parent):
            if is_python_walk(node) and not walks_at_once(parent, node):
                yield node.lineno, "L23 not walked at once"
            if isinstance(node, ast.Name) and node.id in classes and not shows_class(parent, node):
                yield node.lineno, "L18 class handed on"


def statement_faults(node):
    """L6 of one statement."""
    if isinstance(node, ast.Assign) and len(node.targets) > 1:
        yield node.lineno, "L6 targets"
    if isinstance(node, (ast.For, ast.While)) and node.orelse:
        yield node.lineno, "L6 else behind a loop"
    if isinstance(node, ast.Try) and (node.finalbody or any(handler.type is None for handler in node.handlers)):
        yield node.lineno, "L6 try"
    if isinstance(node, ast.Expr) and not isinstance(node.value, (ast.Call, ast.Constant)):
        yield node.lineno, "L6 expression by itself"


def tree_faults(tree):
    yield from top_faults(tree)
    yield from placed_faults(tree)
    for node in ast.walk(tree):
        if isinstance(node, ast.stmt) and not isinstance(node, STATEMENTS):
            yield node.lineno, "L6 statement"
        elif isinstance(node, ast.expr) and not isinstance(node, EXPRESSIONS):
            yield node.lineno, "L7 expression"
        elif isinstance(node, (ast.FunctionDef, ast.ClassDef)):
            yield from def_faults(node)
        elif isinstance(node, ast.stmt):
            yield from statement_faults(node)
        elif isinstance(node, ast.expr):
            yield from expression_faults(node)


def faults(name, text):
    return list(file_faults(name, text)) + list(tree_faults(ast.parse(text)))


def import_faults(trees):
    """L2, L16: own modules alone, from the file that defines the name, and never round in a ring."""
    drawn = {}
    for name, tree in trees.items():
        rows = [node for node in tree.body if isinstance(node, ast.ImportFrom)]
        drawn[name] = [row.module.partition(".")[2] for row in rows if row.module and not row.level]
        for row in rows:
            source = trees.get((row.module or "").partition("glazebench.")[2])
            if row.level or source is None or any(alias.name not in top_names(source) for alias in row.names):
                yield f"{name}: {row.lineno}: L2, L16 import"
    while drawn:
        free = [name for name in drawn if not any(other in drawn for other in drawn[name])]
        if not free:
            yield f"{sorted(drawn)}: L16 ring of imports"
            return
        for name in free:
            drawn.pop(name)


def method_faults(trees):
    """L18, L25: no name a method here and a value there; only listed methods of Python's own values."""
    nodes = [node for tree in trees.values() for node in ast.walk(tree)]
    methods = {part.name for node in nodes if isinstance(node, ast.ClassDef)
               for part in node.body if isinstance(part, ast.FunctionDef)}
    values = {node.attr for node in nodes if isinstance(node, ast.Attribute) and isinstance(node.ctx, ast.Store)}
    for name in sorted(methods & values):
        yield f"L18 {name}"
    called = {node.func.attr for node in nodes if isinstance(node, ast.Call) and isinstance(node.func, ast.Attribute)}
    for name in sorted(called - methods - OWN_METHODS):
        yield f"L25 {name}"


class TestForm(unittest.TestCase):
    def setUp(self):
        paths = [path for path in PACKAGE.rglob("*") if path.name != "__pycache__" and path.suffix != ".pyc"]
        self.texts = {path.name: path.read_text("utf-8") for path in paths}
        self.trees = {name.partition(".")[0]: ast.parse(text) for name, text in self.texts.items()}

    def test_there_are_files(self):
        for name in ("__init__", "errors", "panels", "drawings", "cuts", "cuttexts", "blocks", "leads", "rooms",
                     "forms", "moves", "counts", "numbers", "worths", "flaws", "stairs", "plans", "bench", "lines",
                     "desk"):
            self.assertIn(name + ".py", self.texts)

    def test_each_file(self):
        for name, text in self.texts.items():
            with self.subTest(name):
                self.assertEqual(faults(name, text), [])

    def test_the_files_together(self):
        self.assertEqual(list(import_faults(self.trees)), [])
        self.assertEqual(list(method_faults(self.trees)), [])

    def test_each_rule_is_seen_when_broken(self):
        for text in ("import os", "x = 1 / 2", "x = 1.5", "x = y = 1", "x = b''", "x = 1\nx = 2", "print(1)", "# type",
                     "x = '\u00e9'", "def f(*a):\n    pass", "def f(len):\n    pass", "def _f():\n    pass",
                     "class C:\n    x = 1", "def f(x):\n    return (y for y in x)", "def f(x):\n    del x",
                     "def f(x):\n    return {y: y for y in x}", "def f(x):\n    return x is f",
                     "def f(x):\n    with x:\n        pass", "def f(x):\n    for y in x:\n        pass\n    else:\n"
                     "        pass", "x = '%'", "def f():\n" + "    pass\n" * 40, "\n" * 401, "x = '" + "a" * 120 + "'",
                     "def f(x):\n    return getattr(x, 'y')", "def f(x):\n    x._y = 1", "def f(x):\n    yield x",
                     "def f(x):\n    y = range(x)", "def f(x):\n    return x.items()",
                     "def f(x):\n    return max(x, range(3))",
                     "class C:\n    pass\n\n\ndef f():\n    return C", "def f(x: int):\n    pass",
                     "def f(x):\n    return int(x, base=3)"):
            self.assertNotEqual(faults("some.py", text), [], text)


if __name__ == "__main__":
    unittest.main()
