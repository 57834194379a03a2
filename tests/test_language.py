"""The package keeps to the small part of Python that is asked for; rows L1 to L28 that a walk of its files can see."""

import ast
import builtins
import pathlib
import re
import unittest

PACKAGE = pathlib.Path(__file__).resolve().parent.parent / "liftcourt"

OWN_NAMES = set(
    "len range enumerate zip min max sum abs sorted reversed int str bool list tuple dict set isinstance ord repr any"
    " all divmod Exception ValueError TypeError KeyError IndexError LookupError ZeroDivisionError ArithmeticError"
    " OverflowError RuntimeError NotImplementedError AttributeError StopIteration frozenset".split()
)
OWN_METHODS = set(
    "append clear copy count endswith extend find get index insert isalnum isalpha isdigit islower isspace isupper"
    " items join keys ljust lower lstrip partition pop remove replace reverse rfind rjust rpartition rsplit rstrip"
    " setdefault split splitlines startswith strip update upper values zfill bit_length __init__".split()
)
TWO_UNDERSCORES = set("__init__ __eq__ __repr__ __str__ __len__ __all__ __version__ __name__".split())
BARRED_NAMES = set(
    "register mro elements open input version_info with_traceback add_note format format_map attrgetter breakpoint"
    " builtins compile copyright credits delattr dir eval exec exit gc getattr globals hasattr help id importlib"
    " license locals methodcaller os quit setattr super type vars chr".split()
)
BARRED_WORDS = re.compile(
    r"\b(type|typing|typing_extensions|enum|Enum|IntEnum|StrEnum|Flag|IntFlag|Generic|Protocol|ABC|ABCMeta|namedtuple"
    r"|NamedTuple|TypedDict|TYPE_CHECKING|abstractmethod)\b|dataclass|overload|contextmanager"
)
STATEMENTS = (
    ast.Assign, ast.AugAssign, ast.If, ast.While, ast.For, ast.Return, ast.Break, ast.Continue, ast.Pass, ast.Raise,
    ast.Try, ast.FunctionDef, ast.ClassDef, ast.ImportFrom, ast.Expr,
)
EXPRESSIONS = (
    ast.Constant, ast.List, ast.Tuple, ast.Dict, ast.Set, ast.BinOp, ast.UnaryOp, ast.BoolOp, ast.Compare, ast.IfExp,
    ast.Call, ast.Attribute, ast.Subscript, ast.Slice, ast.ListComp, ast.JoinedStr, ast.FormattedValue, ast.Name,
    ast.Lambda,
)


def is_docstring(statement):
    return isinstance(statement, ast.Expr) and isinstance(getattr(statement.value, "value", None), str)


def faults_of_rows(text):
    for number, row in enumerate(text.split("\n"), start=1):
        if len(row) > 120:
            yield number, "L10: a row of more than 120 signs"
        if re.search(r"[^ -~]", row):
            yield number, "L14: a sign that is not from the blank to ~"
        if BARRED_WORDS.search(row):
            yield number, "L17: a word that stands nowhere"
    if text.count("\n") > 400:
        yield 400, "L10: a file of more than 400 rows"


def faults_of_top(tree):
    imports_end = False
    for place, statement in enumerate(tree.body):
        if isinstance(statement, ast.ImportFrom):
            if imports_end:
                yield statement.lineno, "L2: an import that is not at the top"
            continue
        if place == 0 and is_docstring(statement):
            continue
        imports_end = True
        if not isinstance(statement, (ast.FunctionDef, ast.ClassDef, ast.Assign)):
            yield statement.lineno, "L3: a statement at the top of a file"
    names = [thing.name for thing in tree.body if isinstance(thing, (ast.FunctionDef, ast.ClassDef))]
    names += [name for thing in tree.body if isinstance(thing, ast.Assign) for name in bound_names(thing.targets[0])]
    for name in sorted(set(names)):
        if names.count(name) > 1:
            yield 1, f"L15: {name} is bound twice"


def faults_of_statement(node):
    if not isinstance(node, STATEMENTS):
        yield "L6: " + type(node).__name__
    if isinstance(node, ast.Assign) and len(node.targets) > 1:
        yield "L6: more than one target"
    if isinstance(node, (ast.For, ast.While)) and node.orelse:
        yield "L6: else behind a loop"
    if isinstance(node, ast.Try) and node.finalbody:
        yield "L6: finally"
    if isinstance(node, ast.Expr) and not isinstance(node.value, ast.Call) and node.col_offset > 0:
        yield "L6: a value by itself"
    if isinstance(node, ast.ImportFrom):
        if node.level or not node.module.startswith("liftcourt.") or node.names[0].name == "*":
            yield "L2: an import of something else"
        if any(alias.asname for alias in node.names):
            yield "L2: an import under another name"


def faults_of_def(node):
    if isinstance(node, ast.FunctionDef):
        given = node.args
        if given.vararg or given.kwarg or given.kwonlyargs or given.posonlyargs or node.decorator_list:
            yield "L4: parameters or decorators"
        if node.end_lineno - node.lineno + 1 > 40:
            yield "L10: a function of more than 40 rows"
    if isinstance(node, ast.ClassDef):
        if len(node.bases) > 1 or node.keywords or node.decorator_list:
            yield "L5: bases or decorators"
        if not all(isinstance(part, (ast.FunctionDef, ast.Pass)) for part in node.body):
            yield "L5: a value in the body of a class"


def faults_of_expression(node):
    if isinstance(node, ast.expr) and not isinstance(node, EXPRESSIONS):
        yield "L7: " + type(node).__name__
    if isinstance(node, ast.Constant):
        if not (node.value is None or isinstance(node.value, (bool, int, str))):
            yield "L7: a value of another kind"
        if isinstance(node.value, str) and chr(37) in node.value:
            yield "L27: the sign for hundredths within a text"
    if isinstance(node, ast.Div):
        yield "L7: /"
    if isinstance(node, ast.BinOp) and isinstance(node.op, ast.Pow):
        if not (isinstance(node.right, ast.Constant) and node.right.value in range(65)):
            yield "L27: an exponent that is not written"
    if isinstance(node, ast.Compare) and any(isinstance(sign, (ast.Is, ast.IsNot)) for sign in node.ops):
        sides = [node.left] + node.comparators
        if not any(isinstance(side, ast.Constant) and side.value in (None, True, False) for side in sides):
            yield "L20: is"
    if isinstance(node, ast.ListComp) and (len(node.generators) > 1 or len(node.generators[0].ifs) > 1):
        yield "L7: a comprehension with more than one for or if"
    if isinstance(node, ast.FormattedValue) and not isinstance(node.value, ast.Name):
        yield "L7: an f-string with more than a name"


WALKS = ("zip", "enumerate", "reversed", "range")
WALKED_BY = ("list", "tuple", "dict", "sorted", "sum", "any", "all", "enumerate", "zip")


def is_walk(node):
    if not isinstance(node, ast.Call):
        return False
    if isinstance(node.func, ast.Name):
        return node.func.id in WALKS
    return isinstance(node.func, ast.Attribute) and node.func.attr in ("items", "keys", "values")


def walk_places(node):
    """The nodes right below this one at which a walk may stand."""
    if isinstance(node, (ast.For, ast.comprehension)):
        return [node.iter]
    if isinstance(node, ast.Call) and isinstance(node.func, ast.Name):
        if node.func.id in WALKED_BY:
            return node.args if node.func.id == "zip" else node.args[:1]
        return node.args if node.func.id in ("min", "max") and len(node.args) == 1 else []
    if isinstance(node, ast.Call) and isinstance(node.func, ast.Attribute) and node.func.attr == "join":
        return node.args if isinstance(node.func.value, ast.Constant) else []
    return []


def faults_of_walks(tree):
    right = {id(place) for node in ast.walk(tree) for place in walk_places(node)}
    for node in ast.walk(tree):
        if is_walk(node) and id(node) not in right:
            yield node.lineno, "L23: a walk that is kept"


def bound_names(node):
    if isinstance(node, ast.Name) and isinstance(node.ctx, ast.Store):
        return [node.id]
    if isinstance(node, (ast.FunctionDef, ast.ClassDef)):
        return [node.name]
    if isinstance(node, ast.arg):
        return [node.arg]
    if isinstance(node, ast.Attribute):
        return [node.attr]
    return []


def faults_of_name(node, methods):
    for name in bound_names(node):
        if name not in TWO_UNDERSCORES and not re.fullmatch(r"[A-Za-z][A-Za-z0-9_]*", name):
            yield "L12: the name " + name
        if name in BARRED_NAMES:
            yield "L17: the name " + name
        if not isinstance(node, (ast.Attribute, ast.FunctionDef)) and hasattr(builtins, name):
            yield "L15: a name of Python's own, " + name
    if isinstance(node, ast.Name) and hasattr(builtins, node.id) and node.id not in OWN_NAMES:
        yield "L8: the name " + node.id
    if isinstance(node, ast.Call) and isinstance(node.func, ast.Attribute):
        if node.func.attr not in OWN_METHODS | methods:
            yield "L25: the method " + node.func.attr


def methods_of(tree):
    classes = [node for node in ast.walk(tree) if isinstance(node, ast.ClassDef)]
    return {part.name for node in classes for part in node.body if isinstance(part, ast.FunctionDef)}


def values_of(tree):
    stored = [node for node in ast.walk(tree) if isinstance(node, ast.Attribute) and isinstance(node.ctx, ast.Store)]
    return {node.attr for node in stored}


def classes_of(tree):
    return {node.name for node in ast.walk(tree) if isinstance(node, ast.ClassDef)}


def imports_of(tree):
    rows = [node for node in ast.walk(tree) if isinstance(node, ast.ImportFrom)]
    return {alias.name for node in rows for alias in node.names}


def faults_of_locals(tree):
    taken = classes_of(tree) | imports_of(tree)
    for function in [node for node in ast.walk(tree) if isinstance(node, (ast.FunctionDef, ast.Lambda))]:
        for node in ast.walk(function):
            if isinstance(node, (ast.arg, ast.Name)) and set(bound_names(node)) & taken:
                yield node.lineno, "L15: a local called like a class or an import"


def class_places(node):
    """The nodes right below this one at which the name of a class may stand."""
    if isinstance(node, ast.Call):
        tested = node.args[1:] if isinstance(node.func, ast.Name) and node.func.id == "isinstance" else []
        return [node.func] + [part for thing in tested for part in getattr(thing, "elts", [thing])]
    if isinstance(node, ast.ClassDef):
        return node.bases
    if isinstance(node, ast.ExceptHandler):
        return getattr(node.type, "elts", [node.type])
    if isinstance(node, ast.Raise):
        return [node.exc]
    if isinstance(node, ast.Attribute) and node.attr == "__init__":
        return [node.value]
    return []


def faults_of_classes(tree, classes):
    right = {id(place) for node in ast.walk(tree) for place in class_places(node)}
    for node in ast.walk(tree):
        if isinstance(node, ast.Name) and node.id in classes and id(node) not in right:
            yield node.lineno, "L18: a class that is handed on"


def faults_of(text, methods=frozenset(), classes=frozenset()):
    tree = ast.parse(text)
    found = list(faults_of_rows(text)) + list(faults_of_top(tree)) + list(faults_of_locals(tree))
    found += list(faults_of_classes(tree, classes_of(tree) | classes)) + list(faults_of_walks(tree))
    own = methods_of(tree) | methods
    for node in ast.walk(tree):
        told = list(faults_of_expression(node)) + list(faults_of_def(node)) + list(faults_of_name(node, own))
        if isinstance(node, ast.stmt):
            told += list(faults_of_statement(node))
        found += [(getattr(node, "lineno", 0), fault) for fault in told]
    return sorted(set(found))


def package_files():
    return sorted(path for path in PACKAGE.rglob("*") if path.is_file() and "__pycache__" not in path.parts)


class ThePackage(unittest.TestCase):
    def test_its_files_have_plain_names(self):
        names = [path.name for path in package_files()]
        self.assertIn("__init__.py", names)
        for name in names:
            self.assertRegex(name, r"^([a-z][a-z0-9_]*|__init__|__main__)\.py$")
            self.assertNotRegex(name, r"^(test|tests|testing|test_.*|site|conftest)\.py$")
            self.assertFalse(hasattr(builtins, name[:-3]) and not name.startswith("__"), name)

    def test_each_file_keeps_to_the_rows(self):
        texts = {path: path.read_text(encoding="utf-8") for path in package_files()}
        trees = [ast.parse(text) for text in texts.values()]
        methods = set().union(*[methods_of(tree) for tree in trees])
        classes = set().union(*[classes_of(tree) for tree in trees])
        for path, text in texts.items():
            with self.subTest(file=path.name):
                self.assertEqual(faults_of(text, methods, classes), [])

    def test_no_name_is_a_method_and_a_value(self):
        trees = [ast.parse(path.read_text(encoding="utf-8")) for path in package_files()]
        methods = set().union(*[methods_of(tree) for tree in trees])
        values = set().union(*[values_of(tree) for tree in trees])
        self.assertEqual(methods & values, set(), "L18")

    def test_no_two_files_draw_from_one_another(self):
        draws = {}
        for path in package_files():
            tree = ast.parse(path.read_text(encoding="utf-8"))
            modules = [node.module for node in ast.walk(tree) if isinstance(node, ast.ImportFrom)]
            draws["liftcourt." + path.stem] = set(modules)
        while draws:
            done = [name for name, needed in draws.items() if not needed & set(draws)]
            self.assertTrue(done, "L16: " + ", ".join(sorted(draws)))
            draws = {name: needed for name, needed in draws.items() if name not in done}


class TheWalk(unittest.TestCase):
    def test_faults_are_found(self):
        samples = [
            ("L6", "import sys\n"), ("L2", "from liftcourt.masks import *\n"), ("L2", "from os import path\n"),
            ("L3", "print(1)\n"), ("L4", "def told(*things):\n    return things\n"),
            ("L5", "class Door:\n    turns = 1\n"), ("L6", "def told(x):\n    del x\n"),
            ("L6", "def told(x):\n    'words'\n    return x\n"), ("L7", "HALF = 0.5\n"),
            ("L7", "def told(x):\n    return x / 2\n"), ("L7", "def told(xs):\n    return sum(x for x in xs)\n"),
            ("L8", "def told(x):\n    return hash(x)\n"), ("L10", "WORDS = '" + "a" * 120 + "'\n"),
            ("L10", "def told(x):\n" + "    x += 1\n" * 40), ("L12", "def told(_):\n    return 1\n"),
            ("L14", "# \u00e4\n"), ("L15", "ONE = 1\nONE = 2\n"), ("L15", "def told(max):\n    return max\n"),
            ("L15", "from liftcourt.masks import bit\n\n\ndef told(bit):\n    return bit\n"),
            ("L15", "class Door:\n    pass\n\n\ndef told(x):\n    return [Door for Door in x]\n"),
            ("L17", "# a type\n"), ("L17", "def compile(x):\n    return x\n"),
            ("L18", "class Door:\n    pass\n\n\ndef told():\n    return Door\n"),
            ("L18", "class Door:\n    pass\n\n\ndef told(x):\n    return Door.left(x)\n"),
            ("L20", "def told(x, y):\n    return x is y\n"), ("L25", "def told(x):\n    return x.sort()\n"),
            ("L23", "def told(xs):\n    return [x for x in reversed(range(xs))]\n"),
            ("L23", "def told(xs):\n    return xs.items()\n"), ("L23", "def told(xs):\n    ys = range(xs)\n"),
            ("L27", "def told(k):\n    return 2 ** k\n"), ("L27", "SIGN = '" + chr(37) + "'\n"),
        ]
        for rule, text in samples:
            with self.subTest(text=text):
                self.assertIn(rule, [fault.split(":")[0] for number, fault in faults_of(text)])

    def test_plain_code_has_no_fault(self):
        self.assertEqual(faults_of('"""Words."""\n\nONE = 1\n\n\ndef told(x):\n    return x + ONE\n'), [])
        self.assertEqual(faults_of("class Door:\n    pass\n\n\ndef told(x):\n    return isinstance(x, Door)\n"), [])
        self.assertEqual(faults_of("class Door:\n    pass\n\n\nclass Slow(Door):\n    pass\n"), [])
        self.assertEqual(faults_of("def told(xs):\n    return list(reversed(xs)) + [x for x in range(xs)]\n"), [])


if __name__ == "__main__":
    unittest.main()
