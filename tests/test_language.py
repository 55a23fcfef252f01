"""Holds the package against the rules of its language that can be seen in the code, by their numbers."""

import ast
import builtins
import keyword
import os
import re
import unittest

PACKAGE = "dullglass"
FOLDER = os.path.join(os.path.dirname(os.path.dirname(os.path.abspath(__file__))), PACKAGE)

OWN = set("""len range enumerate zip min max sum abs sorted reversed int str bool list tuple dict set frozenset
isinstance ord repr any all divmod Exception ValueError TypeError KeyError IndexError LookupError ZeroDivisionError
ArithmeticError OverflowError RuntimeError NotImplementedError AttributeError StopIteration""".split())
METHODS = set("""append clear copy count endswith extend find get index insert isalnum isalpha isdigit islower isspace
isupper items join keys ljust lower lstrip partition pop remove replace reverse rfind rjust rpartition rsplit rstrip
setdefault split splitlines startswith strip update upper values zfill bit_length""".split())
PYTHONS = {name for kind in (str, int, list, tuple, dict, set, bytes) for name in dir(kind)}
FREE_METHODS = METHODS | {"add", "discard"}
FREE_VALUES = set("count index title find get join lower upper split strip copy add".split())
DOUBLE = {"__init__", "__eq__", "__repr__", "__str__", "__len__"}
STATEMENTS = (ast.Assign, ast.AugAssign, ast.If, ast.While, ast.For, ast.Return, ast.Break, ast.Continue, ast.Pass,
              ast.Raise, ast.Try, ast.Expr, ast.FunctionDef, ast.ClassDef, ast.ImportFrom)
EXPRESSIONS = (ast.Constant, ast.List, ast.Tuple, ast.Dict, ast.Set, ast.BinOp, ast.UnaryOp, ast.BoolOp, ast.Compare,
               ast.IfExp, ast.Call, ast.Attribute, ast.Subscript, ast.Slice, ast.ListComp, ast.JoinedStr,
               ast.FormattedValue, ast.Name, ast.Lambda)
UNUSED = set("""register mro elements open input version_info with_traceback add_note attrgetter breakpoint builtins
compile copyright credits delattr dir eval exec exit gc getattr globals hasattr help id importlib license locals
methodcaller os quit setattr super type vars sys format format_map""".split())
WORDS = re.compile(r"\b(type|typing|typing_extensions|enum|Enum|IntEnum|StrEnum|Flag|IntFlag|Generic|Protocol|ABC"
                   r"|ABCMeta|namedtuple|NamedTuple|TypedDict|TYPE_CHECKING|abstractmethod)\b"
                   r"|dataclass|overload|contextmanager")
WALKED = {"zip", "enumerate", "reversed", "range", "items", "keys", "values"}
WALKERS = {"list", "tuple", "dict", "sorted", "sum", "any", "all", "enumerate", "zip", "min", "max", "join"}
KEYWORDS = {"sorted": {"key", "reverse"}, "min": {"key", "default"}, "max": {"key", "default"}, "sum": {"start"},
            "enumerate": {"start"}, "zip": {"strict"}}
FILE_NAME = re.compile(r"(__init__|__main__|[a-z][a-z0-9_]*)\.py")
BAD_FILES = {"test", "tests", "testing", "site", "conftest", "sitecustomize", "usercustomize"}


def files():
    return sorted(name for name in os.listdir(FOLDER) if name != "__pycache__")


def text_of(name):
    with open(os.path.join(FOLDER, name), encoding="utf-8", newline="") as opened:
        return opened.read()


def faults_of_signs(text):
    found = []
    for number, line in enumerate(text.split("\n"), start=1):
        if len(line) > 120:
            found.append(("L10", number))
        if not all(" " <= sign <= "~" for sign in line):
            found.append(("L14", number))
        if WORDS.search(line):
            found.append(("L17", number))
    if text.count("\n") > 400:
        found.append(("L10", 400))
    return found


def faults_of_top(tree):
    found = []
    for place, node in enumerate(tree.body):
        docstring = place == 0 and isinstance(node, ast.Expr) and isinstance(node.value, ast.Constant)
        if not docstring and not isinstance(node, (ast.ImportFrom, ast.FunctionDef, ast.ClassDef, ast.Assign)):
            found.append(("L3", node.lineno))
    bound = [node.name for node in tree.body if isinstance(node, (ast.FunctionDef, ast.ClassDef))]
    bound += [target.id for node in tree.body if isinstance(node, ast.Assign) for target in node.targets
              if isinstance(target, ast.Name)]
    bound += [alias.name for node in tree.body if isinstance(node, ast.ImportFrom) for alias in node.names]
    found += [("L15", 0) for name in set(bound) if bound.count(name) > 1]
    return found


def faults_of_statement(node):
    if not isinstance(node, STATEMENTS):
        return ["L6"]
    if isinstance(node, ast.ImportFrom):
        good = node.level == 0 and node.module.startswith(PACKAGE + ".") and node.col_offset == 0
        return [] if good and not any(alias.name == "*" or alias.asname for alias in node.names) else ["L2"]
    if isinstance(node, ast.ClassDef):
        good = all(isinstance(part, (ast.FunctionDef, ast.Pass)) for part in node.body) and len(node.bases) <= 1
        return [] if good and not node.decorator_list and not node.keywords else ["L5"]
    if isinstance(node, ast.FunctionDef):
        good = not (node.args.vararg or node.args.kwarg or node.args.kwonlyargs or node.decorator_list)
        return ([] if good else ["L4"]) + (["L10"] if node.end_lineno - node.lineno >= 40 else [])
    if isinstance(node, (ast.For, ast.While)) and node.orelse:
        return ["L6"]
    if isinstance(node, ast.Assign) and len(node.targets) != 1:
        return ["L6"]
    if isinstance(node, ast.Try) and (node.finalbody or not all(handler.type for handler in node.handlers)):
        return ["L6"]
    return []


def faults_of_expression(node):
    if not isinstance(node, EXPRESSIONS):
        return ["L7"]
    if isinstance(node, ast.BinOp) and isinstance(node.op, (ast.Div, ast.MatMult)):
        return ["L7"]
    if isinstance(node, ast.BinOp) and isinstance(node.op, ast.Pow) and not isinstance(node.right, ast.Constant):
        return ["L27"]
    if isinstance(node, ast.ListComp) and (len(node.generators) != 1 or len(node.generators[0].ifs) > 1):
        return ["L7"]
    if isinstance(node, ast.Constant):
        return faults_of_constant(node.value)
    if isinstance(node, ast.Compare) and any(isinstance(op, (ast.Is, ast.IsNot)) for op in node.ops):
        side = node.comparators[-1]
        return [] if isinstance(side, ast.Constant) and side.value in (None, True, False) else ["L20"]
    return []


def faults_of_constant(value):
    if value is not None and type(value) not in (int, str, bool):
        return ["L7"]
    return ["L27"] if isinstance(value, str) and "%" in value else []


def faults_of_names(node):
    if isinstance(node, ast.Name):
        name, own = node.id, hasattr(builtins, node.id)
        if own and (isinstance(node.ctx, ast.Store) or name not in OWN):
            return ["L8"]
    elif isinstance(node, ast.arg):
        name = node.arg
        if hasattr(builtins, name):
            return ["L15"]
    elif isinstance(node, (ast.FunctionDef, ast.ClassDef)):
        name = node.name
    elif isinstance(node, ast.Attribute):
        name = node.attr
    else:
        return []
    if name in UNUSED:
        return ["L17"]
    return [] if name in DOUBLE or re.fullmatch("[A-Za-z][A-Za-z0-9_]*", name) else ["L12"]


def faults_of_locals(tree):
    """A parameter or a local called like a class or an import of its file."""
    taken = {node.name for node in tree.body if isinstance(node, ast.ClassDef)}
    taken |= {alias.name for node in tree.body if isinstance(node, ast.ImportFrom) for alias in node.names}
    found = []
    for node in ast.walk(tree):
        if isinstance(node, ast.Name) and isinstance(node.ctx, ast.Store) and node.id in taken:
            found.append(("L15", node.lineno))
        if isinstance(node, ast.arg) and node.arg in taken:
            found.append(("L15", node.lineno))
    return found


def methods_and_values(tree):
    methods = {part.name for node in tree.body if isinstance(node, ast.ClassDef) for part in node.body
               if isinstance(part, ast.FunctionDef)} - DOUBLE
    values = {node.attr for node in ast.walk(tree)
              if isinstance(node, ast.Attribute) and isinstance(node.ctx, ast.Store)}
    return methods, values


def faults_of_members(tree):
    methods, values = methods_and_values(tree)
    found = [("L26", 0) for name in methods if name in PYTHONS - FREE_METHODS]
    found += [("L26", 0) for name in values if name in PYTHONS - FREE_VALUES]
    return found + [("L18", 0) for name in methods & values]


def called(node):
    """The name by which something is called; None of what is no call."""
    if not isinstance(node, ast.Call):
        return None
    return node.func.id if isinstance(node.func, ast.Name) else getattr(node.func, "attr", None)


def faults_of_calls(tree):
    """L22 and L23: keywords, Python's own names kept as values, and what is to be walked on the spot."""
    found = []
    parents = {child: node for node in ast.walk(tree) for child in ast.iter_child_nodes(node)}
    for node in ast.walk(tree):
        parent = parents.get(node)
        name = called(node)
        if name and {part.arg for part in node.keywords} - KEYWORDS.get(name, set()):
            found.append(("L22", node.lineno))
        if name in WALKED and not (isinstance(parent, (ast.For, ast.comprehension)) and parent.iter is node):
            # In zip each of its arguments is walked.
            first = called(parent) in WALKERS and (parent.args[:1] == [node] or called(parent) == "zip")
            if not first or called(parent) in ("min", "max") and len(parent.args) > 1:
                found.append(("L23", node.lineno))
        if isinstance(node, ast.Name) and node.id in OWN and isinstance(getattr(builtins, node.id), type(len)):
            if not (isinstance(parent, ast.Call) and parent.func is node) and not isinstance(parent, ast.keyword):
                found.append(("L22", node.lineno))
    return found


def faults_of_forms(tree):
    """L13, L19, L21, L24 and L28, narrower than they are: none of what they hold down is written at all."""
    found = []
    for node in ast.walk(tree):
        if isinstance(node, ast.Set) or called(node) in ("set", "frozenset"):
            found.append(("L24", node.lineno))
        if isinstance(node, ast.ExceptHandler):
            named = {part.id for part in ast.walk(node.type) if isinstance(part, ast.Name)}
            if named & {"Exception", "TypeError", "ValueError", "LookupError", "IndexError"}:
                found.append(("L19", node.lineno))
        if isinstance(node, ast.Raise) and (not isinstance(node.exc, ast.Call) or called(node.exc) in dir(builtins)):
            found.append(("L19", node.lineno))
        if isinstance(node, ast.AnnAssign) or getattr(node, "annotation", None) or getattr(node, "returns", None):
            found.append(("L21", node.lineno))
        if isinstance(node, ast.FunctionDef) and node.name in DOUBLE - {"__init__"}:
            found.append(("L28", node.lineno))
        if isinstance(node, ast.FunctionDef) and node.name == "__init__":
            if any(isinstance(part, ast.Return) for part in ast.walk(node)):
                found.append(("L28", node.lineno))
    lines = [node.lineno for node in ast.walk(tree) if isinstance(node, ast.Lambda)]
    return found + [("L13", line) for line in set(lines) if lines.count(line) > 1]


def faults_of_text(text):
    tree = ast.parse(text)
    found = faults_of_signs(text) + faults_of_top(tree) + faults_of_locals(tree) + faults_of_members(tree)
    found += faults_of_calls(tree) + faults_of_forms(tree)
    docstring = tree.body[0] if ast.get_docstring(tree) else None
    defined = {node.name for node in ast.walk(tree) if isinstance(node, ast.FunctionDef)}
    for node in ast.walk(tree):
        rules = faults_of_names(node)
        if isinstance(node, ast.stmt) and node is not docstring:
            rules += faults_of_statement(node)
            if isinstance(node, ast.Expr) and not isinstance(node.value, ast.Call):
                rules.append("L6")
        if isinstance(node, ast.expr):
            rules += faults_of_expression(node)
        if isinstance(node, ast.Call) and isinstance(node.func, ast.Attribute):
            if node.func.attr not in METHODS | defined | DOUBLE:
                rules.append("L25")
        found += [(rule, getattr(node, "lineno", 0)) for rule in rules]
    return found


def draws_from(name):
    tree = ast.parse(text_of(name))
    rows = [node for node in tree.body if isinstance(node, ast.ImportFrom)]
    return {(row.module.split(".")[1] + ".py", alias.name) for row in rows for alias in row.names}


class TestLanguage(unittest.TestCase):
    def test_each_file_keeps_to_the_rules(self):
        for name in files():
            self.assertEqual(faults_of_text(text_of(name)), [], name)

    def test_files_are_plainly_named(self):
        self.assertIn("__init__.py", files())
        for name in files():
            self.assertTrue(FILE_NAME.fullmatch(name), name)
            stem = name[:-3]
            if stem in ("__init__", "__main__"):
                continue
            self.assertFalse(stem in BAD_FILES or stem.startswith("test_") or hasattr(builtins, stem), name)
            self.assertFalse(keyword.iskeyword(stem), name)

    def test_imports_name_what_the_file_defines(self):
        for name in files():
            for source, drawn in draws_from(name):
                top = ast.parse(text_of(source)).body
                bound = [node.name for node in top if isinstance(node, (ast.FunctionDef, ast.ClassDef))]
                bound += [node.targets[0].id for node in top if isinstance(node, ast.Assign)]
                self.assertIn(drawn, bound, (name, source))

    def test_no_two_files_draw_from_one_another(self):
        left = {name: {source for source, drawn in draws_from(name)} for name in files()}
        while left:
            done = [name for name in left if not left[name] & set(left)]
            self.assertTrue(done, sorted(left))
            for name in done:
                left.pop(name)

    def test_no_name_is_a_method_here_and_a_value_there(self):
        both = [methods_and_values(ast.parse(text_of(name))) for name in files()]
        methods = {name for one, other in both for name in one}
        values = {name for one, other in both for name in other}
        self.assertEqual(methods & values, set())

    def test_faults_are_seen(self):
        for text, rule in [
            ("import os\n", "L6"), ("from fractions import Fraction\n", "L2"), ("x = 1 / 2\n", "L7"),
            ("x = 0.5\n", "L7"), ("def f(x):\n    return eval(x)\n", "L8"), ("def f(*xs):\n    return xs\n", "L4"),
            ("x = y = 1\n", "L6"), ("def f():\n    'told'\n    return 1\n", "L6"), ("x = 1\nx = 2\n", "L15"),
            ("def f(xs):\n    return sum(x for x in xs)\n", "L7"), ("def f(list):\n    return list\n", "L15"),
            ("def f(x):\n    x.sort()\n", "L25"), ("# a type\n", "L17"), ("def f(x):\n    return x is f\n", "L20"),
            ("x = '%'\n", "L27"), ("def f(n):\n    return 2 ** n\n", "L27"), ("def _f():\n    pass\n", "L12"),
            ("def f():\n" + "    pass\n" * 40, "L10"), ("print(1)\n", "L3"), ("class A:\n    x = 1\n", "L5"),
            ("from dullglass.shares import share\ndef f(share):\n    return share\n", "L15"),
            ("from dullglass.shares import share\ndef f():\n    share = 1\n    return share\n", "L15"),
            ("class A:\n    pass\ndef f():\n    return [A for A in (1, 2)]\n", "L15"),
            ("class A:\n    def __init__(self):\n        self.items = 1\n", "L26"),
            ("class A:\n    def sort(self):\n        return 1\n", "L26"),
            ("class A:\n    def told(self):\n        self.told = 1\n", "L18"),
            ("def f(x):\n    return sorted(x, reverse=True)[0].split(sep=' ')\n", "L22"),
            ("def f(x):\n    y = len\n    return y(x)\n", "L22"), ("def f(x):\n    y = zip(x, x)\n    return y\n", "L23"),
            ("def f(x):\n    return x.values()\n", "L23"), ("def f(x):\n    return max(range(3), x)\n", "L23"),
            ("def f(x):\n    y = {1, 2}\n    return y\n", "L24"), ("def f(x):\n    return set(x)\n", "L24"),
            ("def f(x):\n    try:\n        return x()\n    except Exception:\n        return 1\n", "L19"),
            ("def f(x):\n    raise ValueError('told')\n", "L19"), ("def f(x: int):\n    return x\n", "L21"),
            ("def f(x):\n    y: int = x\n    return y\n", "L21"), ("def f(x) -> int:\n    return x\n", "L21"),
            ("class A:\n    def __len__(self):\n        return 1\n", "L28"),
            ("class A:\n    def __init__(self):\n        return None\n", "L28"),
            ("def f(x):\n    return [lambda y: y, lambda y: x]\n", "L13"),
        ]:
            self.assertIn(rule, [fault[0] for fault in faults_of_text(text)], text)


if __name__ == "__main__":
    unittest.main()
