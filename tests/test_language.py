"""The rules of the language that the package keeps to, as far as its text shows them.

Where a rule allows what the package has no need of (imports, sets, annotations), it is refused here.
"""

import ast
import builtins
import os
import re
import unittest

import sheepgates

FOLDER = os.path.dirname(sheepgates.__file__)

ERRORS = (
    "Exception ValueError TypeError KeyError IndexError LookupError ZeroDivisionError ArithmeticError OverflowError "
    "RuntimeError NotImplementedError"
).split()
PYTHONS_OWN = (
    "len range enumerate zip min max sum abs sorted reversed int str bool list tuple dict isinstance ord repr any all "
    "divmod"
).split() + ERRORS
METHODS = (
    "append clear copy count endswith extend find get index insert isalnum isalpha isdigit islower isspace isupper "
    "items join keys ljust lower lstrip partition pop remove replace reverse rfind rjust rpartition rsplit rstrip "
    "setdefault split splitlines startswith strip update upper values zfill bit_length"
).split()
CHANGING = "append clear extend insert pop remove reverse setdefault update".split()
VALUES_LIKE_METHODS = "count index title find get join lower upper split strip copy add".split()
WORDS_NOWHERE = (
    "type typing typing_extensions enum Enum IntEnum StrEnum Flag IntFlag Generic Protocol ABC ABCMeta namedtuple "
    "NamedTuple TypedDict TYPE_CHECKING abstractmethod"
).split()
PARTS_NOWHERE = "dataclass overload contextmanager".split()
NAMES_NOWHERE = (
    "register mro elements open input version_info with_traceback add_note format format_map attrgetter breakpoint "
    "builtins compile copyright credits delattr dir eval exec exit gc getattr globals hasattr help id importlib "
    "license locals methodcaller os quit setattr super sys vars chr print set frozenset"
).split()
KEYWORDS = {
    "sorted": ("key", "reverse"), "min": ("key", "default"), "max": ("key", "default"), "sum": ("start",),
    "enumerate": ("start",), "zip": ("strict",),
}
WALKED = ("zip", "enumerate", "reversed", "range", "items", "keys", "values")
WALKERS = ("list", "tuple", "dict", "sorted", "sum", "any", "all", "enumerate", "zip", "min", "max", "join")
FILES_NOT_SO_CALLED = ("test", "tests", "testing", "site", "conftest", "sitecustomize", "usercustomize")

STATEMENTS = (
    ast.FunctionDef, ast.ClassDef, ast.Assign, ast.AugAssign, ast.If, ast.While, ast.For, ast.Return, ast.Break,
    ast.Continue, ast.Pass, ast.Raise, ast.Try, ast.Expr,
)
EXPRESSIONS = (
    ast.Constant, ast.List, ast.Tuple, ast.Dict, ast.BinOp, ast.UnaryOp, ast.Compare, ast.BoolOp, ast.IfExp, ast.Call,
    ast.Attribute, ast.Subscript, ast.Slice, ast.ListComp, ast.JoinedStr, ast.FormattedValue, ast.Lambda, ast.Name,
)


def parents_of(tree):
    return {child: parent for parent in ast.walk(tree) for child in ast.iter_child_nodes(parent)}


def called(node):
    """The name that a call calls, or None."""
    if not isinstance(node, ast.Call):
        return None
    if isinstance(node.func, ast.Name):
        return node.func.id
    return node.func.attr if isinstance(node.func, ast.Attribute) else None


def plain(node):
    if isinstance(node, (ast.List, ast.Tuple)):
        return all(plain(each) for each in node.elts)
    if isinstance(node, ast.Dict):
        return all(each is not None and plain(each) for each in node.keys + node.values)
    if isinstance(node, ast.UnaryOp):
        return isinstance(node.op, ast.USub) and plain(node.operand)
    return isinstance(node, (ast.Constant, ast.Name))


class Rules:
    """Gathers the rules that one file's text breaks, with the rows where it does."""

    def __init__(self, text):
        self.text = text
        self.rows = text.split("\n")
        self.tree = ast.parse(text)
        self.nodes = list(ast.walk(self.tree))
        self.parents = parents_of(self.tree)
        self.found = []
        self.classes = [node for node in self.nodes if isinstance(node, ast.ClassDef)]
        self.defs = [node for node in self.nodes if isinstance(node, ast.FunctionDef)]
        self.own_methods = [node.name for node in self.defs if isinstance(self.parents[node], ast.ClassDef)]
        self.bound = self.bound_names()

    def refuse(self, rule, row):
        self.found.append((rule, row))

    def bound_names(self):
        found = [(node.id, node.lineno) for node in self.nodes
                 if isinstance(node, ast.Name) and not isinstance(node.ctx, ast.Load)]
        found += [(node.arg, node.lineno) for node in self.nodes if isinstance(node, ast.arg)]
        found += [(node.name, node.lineno) for node in self.nodes if isinstance(node, ast.ExceptHandler) and node.name]
        return found

    def all(self):
        for check in (
            self.text_rules, self.top, self.functions, self.class_rules, self.statements, self.expressions, self.names,
            self.errors, self.calls, self.walks, self.top_values, self.object_values,
        ):
            check()
        return self.found

    def text_rules(self):
        for number, row in enumerate(self.rows, start=1):
            if len(row) > 120:
                self.refuse("L10", number)
            if any(not " " <= sign <= "~" for sign in row):
                self.refuse("L14", number)
            words = re.findall(r"\w+", row)
            if any(word in WORDS_NOWHERE for word in words) or any(part in row for part in PARTS_NOWHERE):
                self.refuse("L17", number)
            if row.count("lambda") > 1:
                self.refuse("L13", number)
        if len(self.text.splitlines()) > 400:
            self.refuse("L10", 401)

    def top(self):
        names = []
        for place, node in enumerate(self.tree.body):
            if isinstance(node, (ast.FunctionDef, ast.ClassDef)):
                names.append(node.name)
            elif isinstance(node, ast.Assign) and isinstance(node.targets[0], ast.Name) and plain(node.value):
                names.append(node.targets[0].id)
            elif not (place == 0 and isinstance(node, ast.Expr) and isinstance(node.value, ast.Constant)):
                self.refuse("L3", node.lineno)
        for name in names:
            if names.count(name) > 1:
                self.refuse("L15", 1)

    def functions(self):
        for node in self.defs + [each for each in self.nodes if isinstance(each, ast.Lambda)]:
            given = node.args
            if given.vararg or given.kwarg or given.kwonlyargs or given.posonlyargs:
                self.refuse("L4", node.lineno)
            if not all(plain(value) for value in given.defaults):
                self.refuse("L4", node.lineno)
            if any(each.annotation for each in given.args):
                self.refuse("L21", node.lineno)
        for node in self.defs:
            if node.decorator_list:
                self.refuse("L4", node.lineno)
            if node.returns:
                self.refuse("L21", node.lineno)
            if node.end_lineno - node.lineno + 1 > 40:
                self.refuse("L10", node.lineno)

    def class_rules(self):
        own = [node.name for node in self.classes]
        for node in self.classes:
            bases = [base.id if isinstance(base, ast.Name) else "" for base in node.bases]
            if len(bases) > 1 or node.keywords or node.decorator_list or any(b not in ERRORS + own for b in bases):
                self.refuse("L5", node.lineno)
            if self.parents[node] is not self.tree:
                self.refuse("L15", node.lineno)
            methods = [each.name for each in node.body if isinstance(each, ast.FunctionDef)]
            if len(methods) != len(set(methods)):
                self.refuse("L18", node.lineno)
            for each in node.body:
                told = isinstance(each, ast.Expr) and isinstance(each.value, ast.Constant)
                if not isinstance(each, (ast.FunctionDef, ast.Pass)) and not told:
                    self.refuse("L5", each.lineno)
                if isinstance(each, ast.FunctionDef):
                    self.method(each)

    def method(self, node):
        if node.name.startswith("__") and node.name != "__init__":
            self.refuse("L28", node.lineno)
        for each in ast.walk(node):
            if node.name == "__init__" and isinstance(each, ast.Return) and each.value is not None:
                self.refuse("L28", each.lineno)

    def statements(self):
        for node in self.nodes:
            if not isinstance(node, ast.stmt):
                continue
            if not isinstance(node, STATEMENTS):
                self.refuse("L2" if isinstance(node, (ast.Import, ast.ImportFrom)) else "L6", node.lineno)
            if isinstance(node, ast.Assign) and len(node.targets) > 1:
                self.refuse("L6", node.lineno)
            if isinstance(node, (ast.For, ast.While)) and node.orelse:
                self.refuse("L6", node.lineno)
            if isinstance(node, ast.Try) and node.finalbody:
                self.refuse("L6", node.lineno)
            if isinstance(node, ast.Expr) and not isinstance(node.value, (ast.Call, ast.Constant)):
                self.refuse("L6", node.lineno)

    def expressions(self):
        for node in self.nodes:
            if not isinstance(node, ast.expr):
                continue
            if not isinstance(node, EXPRESSIONS):
                self.refuse("L24" if isinstance(node, ast.Set) else "L7", node.lineno)
            if isinstance(node, ast.Constant):
                self.constant(node)
            if isinstance(node, ast.BinOp):
                self.operation(node)
            if isinstance(node, ast.ListComp):
                if len(node.generators) > 1 or len(node.generators[0].ifs) > 1:
                    self.refuse("L7", node.lineno)
            if isinstance(node, ast.FormattedValue) and not isinstance(node.value, ast.Name):
                self.refuse("L7", node.lineno)
            if isinstance(node, ast.Compare) and any(isinstance(op, (ast.Is, ast.IsNot)) for op in node.ops):
                beside = [node.left] + node.comparators
                if not any(isinstance(each, ast.Constant) and each.value in (None, True, False) for each in beside):
                    self.refuse("L20", node.lineno)

    def constant(self, node):
        if isinstance(node.value, (float, complex, bytes)) or node.value is ...:
            self.refuse("L7", node.lineno)
        if isinstance(node.value, str) and "%" in node.value:
            self.refuse("L27", node.lineno)

    def operation(self, node):
        if isinstance(node.op, (ast.Div, ast.MatMult)):
            self.refuse("L7", node.lineno)
        if isinstance(node.op, ast.Pow):
            power = node.right
            if not (isinstance(power, ast.Constant) and isinstance(power.value, int) and 0 <= power.value <= 64):
                self.refuse("L27", node.lineno)

    def names(self):
        defined = [(node.name, node.lineno) for node in self.defs + self.classes if node.name != "__init__"]
        attributes = [(node.attr, node.lineno) for node in self.nodes if isinstance(node, ast.Attribute)]
        for name, row in defined + self.bound + attributes:
            if not re.fullmatch(r"[A-Za-z][A-Za-z0-9_]*", name):
                self.refuse("L12", row)
        class_names = [node.name for node in self.classes]
        for name, row in self.bound:
            if name in class_names or name in vars(builtins):
                self.refuse("L15", row)
        for node in self.nodes:
            if isinstance(node, ast.Name):
                if node.id in NAMES_NOWHERE or node.id in vars(builtins) and node.id not in PYTHONS_OWN:
                    self.refuse("L8", node.lineno)
        for name, row in attributes:
            if name in NAMES_NOWHERE or name.startswith(("f_", "tb_", "co_", "gi_", "cr_")):
                self.refuse("L17", row)

    def errors(self):
        for node in self.nodes:
            if isinstance(node, ast.ExceptHandler):
                own = isinstance(node.type, ast.Name) and node.type.id not in ("Exception", "TypeError")
                if not own:
                    self.refuse("L19", node.lineno)
            if isinstance(node, ast.Raise) and not isinstance(node.exc, ast.Call):
                self.refuse("L19", node.lineno)

    def calls(self):
        for node in self.nodes:
            if not isinstance(node, ast.Call):
                continue
            name = called(node)
            for keyword in node.keywords:
                if keyword.arg not in KEYWORDS.get(name, ()):
                    self.refuse("L22", node.lineno)
            if isinstance(node.func, ast.Attribute) and name not in METHODS + self.own_methods:
                self.refuse("L25", node.lineno)
        for node in self.nodes:
            parent = self.parents.get(node)
            is_called = isinstance(parent, ast.Call) and parent.func is node
            by_key = isinstance(parent, ast.keyword) and parent.arg == "key"
            if isinstance(node, ast.Attribute) and node.attr in METHODS + self.own_methods:
                if not is_called and not by_key and node.attr not in VALUES_LIKE_METHODS:
                    self.refuse("L25", node.lineno)
            if isinstance(node, ast.Name) and node.id in PYTHONS_OWN and node.id not in ERRORS:
                beside = isinstance(parent, (ast.Call, ast.Tuple))
                if not is_called and not by_key and not beside:
                    self.refuse("L22", node.lineno)

    def walks(self):
        for node in self.nodes:
            if called(node) in WALKED:
                parent = self.parents[node]
                behind_in = isinstance(parent, (ast.For, ast.comprehension)) and parent.iter is node
                first = isinstance(parent, ast.Call) and called(parent) in WALKERS and node in parent.args
                if not behind_in and not first:
                    self.refuse("L23", node.lineno)
            if isinstance(node, ast.For):
                self.loop(node)

    def loop(self, node):
        walked = {ast.dump(node.iter)}
        if isinstance(node.iter, ast.Call):
            walked |= {ast.dump(each) for each in node.iter.args}
        for each in ast.walk(ast.Module(node.body, [])):
            if called(each) in CHANGING and isinstance(each.func, ast.Attribute):
                if ast.dump(each.func.value) in walked:
                    self.refuse("L23", each.lineno)
            if isinstance(each, ast.Subscript) and isinstance(each.ctx, ast.Store) and ast.dump(each.value) in walked:
                self.refuse("L23", each.lineno)

    def top_values(self):
        kept = {}
        for node in self.tree.body:
            if isinstance(node, ast.Assign) and isinstance(node.value, (ast.List, ast.Dict)):
                kept[node.targets[0].id] = node
                if any(isinstance(each, (ast.List, ast.Dict)) for each in list(ast.walk(node.value))[1:]):
                    self.refuse("L15", node.lineno)
        for node in self.nodes:
            if isinstance(node, ast.Name) and node.id in kept and isinstance(node.ctx, ast.Load):
                self.top_value_read(node)

    def top_value_read(self, node):
        parent = self.parents[node]
        changed = isinstance(parent, ast.Subscript) and not isinstance(parent.ctx, ast.Load)
        handed_on = isinstance(parent, ast.Call) and called(parent) not in PYTHONS_OWN
        if changed or handed_on or isinstance(parent, (ast.Return, ast.Assign)):
            self.refuse("L15", node.lineno)
        if isinstance(parent, ast.Attribute) and parent.attr in CHANGING:
            self.refuse("L15", node.lineno)

    def object_values(self):
        class_names = [node.name for node in self.classes]
        taken = [name for each in (str, int, list, dict, set, bytes) for name in vars(each)]
        for node in self.nodes:
            if isinstance(node, ast.Attribute) and not isinstance(node.ctx, ast.Load):
                if node.attr in taken and node.attr not in VALUES_LIKE_METHODS:
                    self.refuse("L26", node.lineno)
                if node.attr in self.own_methods or isinstance(node.value, ast.Name) and node.value.id in class_names:
                    self.refuse("L18", node.lineno)
        for name in self.own_methods:
            if name in taken and name not in METHODS + ["__init__", "add", "discard"]:
                self.refuse("L26", 1)


def broken(text):
    return sorted(set(Rules(text).all()))


def files():
    return sorted(name for name in os.listdir(FOLDER) if name != "__pycache__")


class ThePackage(unittest.TestCase):
    def test_files(self):
        self.assertIn("__init__.py", files())
        self.assertIn("sheds.py", files())
        for name in files():
            with self.subTest(name=name):
                self.assertRegex(name, r"^(__init__|[a-z][a-z0-9_]*)\.py$")
                plain_name = name[:-3]
                self.assertNotIn(plain_name, vars(builtins))
                self.assertFalse(plain_name.startswith("test_"))
                self.assertNotIn(plain_name, FILES_NOT_SO_CALLED + tuple(WORDS_NOWHERE))

    def test_rules(self):
        for name in files():
            with self.subTest(name=name):
                with open(os.path.join(FOLDER, name), encoding="ascii", newline="") as file:
                    self.assertEqual(broken(file.read()), [])


RIGHT = '''"""Why."""

NUMBERS = (1, 2)
NAMES = ["a", "b"]


class Wrong(ValueError):
    pass


class Kept:
    def __init__(self, many=0):
        self.many = many

    def more(self, by):
        self.many += by
        return self.many


def added(numbers):
    found = []
    for place, number in enumerate(numbers):
        if number < 0:
            raise Wrong("below")
        found.append(number + place ** 2)
    return sorted([each for each in found if each is not None], key=lambda each: -each)
'''

WRONG = [
    ("L2", "import os\n"),
    ("L2", "from sheepgates.sheds import answers\n"),
    ("L3", "print('a')\n"),
    ("L3", "for each in (1, 2):\n    pass\n"),
    ("L3", "many = len('ab')\n"),
    ("L4", "def f(*given):\n    return given\n"),
    ("L4", "def f(**given):\n    return given\n"),
    ("L4", "def f(*, given):\n    return given\n"),
    ("L4", "def f(given=len('a')):\n    return given\n"),
    ("L4", "def g(h):\n    return h\n\n\n@g\ndef f():\n    return 1\n"),
    ("L5", "class A:\n    many = 1\n"),
    ("L5", "class A(list):\n    pass\n"),
    ("L5", "class A(ValueError, KeyError):\n    pass\n"),
    ("L6", "def f():\n    assert True\n"),
    ("L6", "def f(xs):\n    del xs[0]\n"),
    ("L6", "def f():\n    a = b = 1\n    return a + b\n"),
    ("L6", "def f(xs):\n    for x in xs:\n        pass\n    else:\n        return 1\n"),
    ("L6", "def f(xs):\n    try:\n        return xs\n    finally:\n        return 1\n"),
    ("L6", "def f(xs):\n    with xs:\n        return 1\n"),
    ("L7", "def f():\n    return 1.5\n"),
    ("L7", "def f(a):\n    return a / 2\n"),
    ("L7", "def f():\n    return b'a'\n"),
    ("L7", "def f(xs):\n    return sum(x for x in xs)\n"),
    ("L7", "def f(xs):\n    return {x: 1 for x in xs}\n"),
    ("L7", "def f(xs):\n    return {x for x in xs}\n"),
    ("L7", "def f(xs):\n    return [y for x in xs for y in x]\n"),
    ("L7", "def f(xs):\n    return [x for x in xs if x if x > 1]\n"),
    ("L7", "def f(xs):\n    return [*xs]\n"),
    ("L7", "def f(xs):\n    return (x := xs)\n"),
    ("L7", "def f(xs):\n    return f'{len(xs)}'\n"),
    ("L7", "def f(xs):\n    yield xs\n"),
    ("L8", "def f(xs):\n    return map(len, xs)\n"),
    ("L8", "def f(xs):\n    print(xs)\n"),
    ("L8", "def f(n):\n    return chr(n)\n"),
    ("L10", "def f():\n" + "    pass\n" * 40),
    ("L10", "# " + "a" * 119 + "\n"),
    ("L10", "#\n" * 401),
    ("L12", "def f(xs):\n    return [1 for _ in xs]\n"),
    ("L12", "def _f(xs):\n    return xs\n"),
    ("L12", "class A:\n    def __init__(self):\n        self._many = 1\n"),
    ("L13", "def f(xs):\n    return [lambda a: a, lambda a: a]\n"),
    ("L14", "# \u00e4\n"),
    ("L14", "def f():\n\treturn 1\n"),
    ("L15", "a = 1\na = 2\n"),
    ("L15", "def f():\n    class A:\n        pass\n    return 1\n"),
    ("L15", "a = [[1], [2]]\n"),
    ("L15", "a = [1]\n\n\ndef f():\n    a.append(2)\n"),
    ("L15", "a = [1]\n\n\ndef f():\n    a[0] = 2\n"),
    ("L15", "a = [1]\n\n\ndef f():\n    return a\n"),
    ("L15", "a = [1]\n\n\ndef g(xs):\n    return xs\n\n\ndef f():\n    return g(a)\n"),
    ("L15", "def f(min):\n    return min\n"),
    ("L15", "def f(xs):\n    for next in xs:\n        pass\n"),
    ("L15", "class A:\n    pass\n\n\ndef f():\n    A = 1\n    return A\n"),
    ("L17", "# of this type\n"),
    ("L17", "def f(a):\n    return a.register\n"),
    ("L17", "def f(a):\n    return a.f_back\n"),
    ("L18", "class A:\n    def g(self):\n        return 1\n\n    def g(self):\n        return 2\n"),
    ("L18", "class A:\n    def g(self):\n        self.g = 1\n"),
    ("L18", "class A:\n    pass\n\n\ndef f():\n    A.many = 1\n"),
    ("L19", "def f(a):\n    try:\n        return a\n    except:\n        return 1\n"),
    ("L19", "def f(a):\n    try:\n        return a\n    except Exception:\n        return 1\n"),
    ("L19", "def f():\n    raise ValueError\n"),
    ("L20", "def f(a, b):\n    return a is b\n"),
    ("L21", "def f(a: int):\n    return a\n"),
    ("L21", "def f(a) -> int:\n    return a\n"),
    ("L22", "def f(xs):\n    return list(sequence=xs)\n"),
    ("L22", "def f(xs):\n    g = len\n    return g(xs)\n"),
    ("L23", "def f(xs):\n    a = enumerate(xs)\n    return list(a)\n"),
    ("L23", "def f(d):\n    return d.items()\n"),
    ("L23", "def f(xs):\n    for x in xs:\n        xs.append(x)\n"),
    ("L23", "def f(xs):\n    for k, x in enumerate(xs):\n        xs[k] = x\n"),
    ("L24", "def f(a):\n    return a in {1, 2}\n"),
    ("L25", "def f(xs):\n    xs.sort()\n"),
    ("L25", "def f(xs):\n    g = xs.append\n    g(1)\n"),
    ("L26", "class A:\n    def __init__(self):\n        self.items = 1\n"),
    ("L26", "class A:\n    def sort(self):\n        return 1\n"),
    ("L27", "def f(n):\n    return 2 ** n\n"),
    ("L27", "def f():\n    return '%'\n"),
    ("L28", "class A:\n    def __eq__(self, other):\n        return True\n"),
    ("L28", "class A:\n    def __init__(self):\n        return None\n"),
]


class TheRulesThemselves(unittest.TestCase):
    """Each of them finds what breaks it."""

    def test_right(self):
        self.assertEqual(broken(RIGHT), [])

    def test_wrong(self):
        for rule, text in WRONG:
            with self.subTest(rule=rule, text=text):
                self.assertIn(rule, [each for each, row in broken(text)])


if __name__ == "__main__":
    unittest.main()
