"""The form of the package's code, as far as a test can tell it."""

import ast
import builtins
import os
import re
import unittest

ROOT = os.path.join(os.path.dirname(os.path.abspath(__file__)), "..")
PACKAGE = os.path.join(ROOT, "purseahead")

ALLOWED_BUILTINS = {
    "len", "range", "enumerate", "zip", "min", "max", "sum", "abs", "sorted", "reversed", "int", "str", "bool",
    "list", "tuple", "dict", "isinstance", "ord", "repr", "any", "all", "divmod", "ValueError", "iter",
    "NotImplemented", "property", "staticmethod"}
ALLOWED_METHODS = {"append", "pop", "split", "join", "get", "index", "count", "items", "values"}
ALLOWED_DUNDERS = {"__init__", "__eq__", "__len__", "__iter__", "__add__", "__enter__", "__exit__"}
BARRED_NAMES = {
    "register", "mro", "elements", "open", "input", "law", "version_info", "with_traceback", "add_note",
    "attrgetter", "breakpoint", "builtins", "compile", "copyright", "credits", "delattr", "dir", "eval", "exec",
    "exit", "gc", "getattr", "globals", "hasattr", "help", "id", "importlib", "license", "locals",
    "methodcaller", "os", "quit", "setattr", "super", "type", "vars", "sys", "_wall", "_cold", "_record"}
BARRED_WORDS = {
    "type", "typing", "typing_extensions", "enum", "Enum", "IntEnum", "StrEnum", "Flag", "IntFlag", "Generic",
    "Protocol", "ABC", "ABCMeta", "namedtuple", "NamedTuple", "TypedDict", "TYPE_CHECKING", "abstractmethod"}
BARRED_ATTRIBUTES = {
    "items", "keys", "values", "pop", "update", "append", "clear", "extend", "insert", "remove", "reverse",
    "setdefault", "sort", "args", "encode", "decode", "hex", "fromhex", "format", "format_map", "mro"}
# What may come from the library; each is only called, by its bare name and with arguments by position.
LIBRARY = {"math": {"gcd", "comb"}}
# Narrower than the rules ask for: what the package does without is not weighed case by case here.
ALLOWED_NODES = (
    ast.Module, ast.Expr, ast.ImportFrom, ast.alias, ast.FunctionDef, ast.ClassDef, ast.arguments, ast.arg,
    ast.Assign, ast.Return, ast.If, ast.For, ast.While, ast.Continue, ast.Break, ast.Pass, ast.Raise,
    ast.Name, ast.Load, ast.Store, ast.Constant, ast.Attribute, ast.Subscript, ast.Slice, ast.Call, ast.keyword,
    ast.Tuple, ast.List, ast.Dict, ast.ListComp, ast.DictComp, ast.comprehension, ast.Starred, ast.IfExp,
    ast.Lambda, ast.Yield, ast.YieldFrom, ast.JoinedStr, ast.FormattedValue,
    ast.BoolOp, ast.And, ast.Or, ast.UnaryOp, ast.Not, ast.USub, ast.BinOp, ast.Add, ast.Sub, ast.Mult,
    ast.FloorDiv, ast.Mod, ast.Pow, ast.Compare, ast.Eq, ast.NotEq, ast.Lt, ast.LtE, ast.Gt, ast.GtE, ast.Is,
    ast.IsNot, ast.In, ast.NotIn, ast.Try, ast.ExceptHandler,
    ast.With, ast.withitem)
AT_ONCE = {"list", "tuple", "sorted", "enumerate", "zip", "dict"}


def package_files():
    return sorted(name for name in os.listdir(PACKAGE) if name != "__pycache__")


def source_of(name):
    with open(os.path.join(PACKAGE, name), encoding="utf-8", newline="") as file:
        return file.read()


def sources():
    return {name: source_of(name) for name in package_files()}


def text_faults(text):
    """Faults of characters and sizes."""
    faults = []
    if not all(sign == "\n" or " " <= sign <= "~" for sign in text):
        faults.append("character")
    if len(text.splitlines()) > 399:
        faults.append("long file")
    if any(len(line) > 120 for line in text.splitlines()):
        faults.append("long line")
    if any(line != line.rstrip() for line in text.splitlines()):
        faults.append("blank at the end")
    return faults


def is_plain(node):
    """Whether an expression at module level is plain: literals, tuples and sums of such."""
    if isinstance(node, ast.Constant):
        return True
    if isinstance(node, ast.Tuple):
        return all(is_plain(item) for item in node.elts)
    if isinstance(node, ast.UnaryOp):
        return is_plain(node.operand)
    if isinstance(node, ast.BinOp):
        return is_plain(node.left) and is_plain(node.right)
    return False


def bound_names(tree):
    """The names that a module binds, one for each time."""
    names = []
    for node in tree.body:
        if isinstance(node, (ast.FunctionDef, ast.ClassDef)):
            names.append(node.name)
        elif isinstance(node, ast.Assign):
            names.extend(target.id for target in node.targets)
        elif isinstance(node, ast.ImportFrom):
            names.extend(alias.name for alias in node.names)
    return names


def defined_names(tree):
    return [name for name in bound_names(tree) if name not in imported_names(tree)]


def imported_names(tree):
    return [alias.name for node in tree.body if isinstance(node, ast.ImportFrom) for alias in node.names]


def level_faults(tree):
    """Faults of what stands at module level."""
    faults = []
    behind_imports = False
    for index, node in enumerate(tree.body):
        if index == 0 and isinstance(node, ast.Expr) and isinstance(node.value, ast.Constant):
            continue
        if isinstance(node, ast.ImportFrom):
            if behind_imports:
                faults.append("import not at the top")
            continue
        behind_imports = True
        if isinstance(node, ast.Assign):
            if len(node.targets) != 1 or not isinstance(node.targets[0], ast.Name) or not is_plain(node.value):
                faults.append("value at module level")
        elif not isinstance(node, (ast.FunctionDef, ast.ClassDef)):
            faults.append("statement at module level")
    names = bound_names(tree)
    if len(names) != len(set(names)):
        faults.append("name bound twice")
    return faults


def functions_of(tree):
    return [node for node in ast.walk(tree) if isinstance(node, ast.FunctionDef)]


def is_generator(function):
    return any(isinstance(node, (ast.Yield, ast.YieldFrom)) for node in ast.walk(function))


def arguments_of(node):
    found = node.args
    return [arg.arg for arg in [*found.posonlyargs, *found.args, *found.kwonlyargs]]


def local_names(function):
    names = set(arguments_of(function))
    for node in ast.walk(function):
        if isinstance(node, ast.Name) and isinstance(node.ctx, ast.Store):
            names.add(node.id)
        if isinstance(node, ast.Lambda):
            names.update(arguments_of(node))
    return names


def size_faults(tree):
    return ["long function " + node.name for node in functions_of(tree) if node.end_lineno - node.lineno >= 40]


def name_faults(tree):
    """Faults of names: barred ones, builtins, classes and imports as locals, unknown names."""
    faults = []
    known = set(bound_names(tree))
    closed = set(imported_names(tree)) | {node.name for node in tree.body if isinstance(node, ast.ClassDef)}
    for function in functions_of(tree):
        names = local_names(function)
        faults.extend("local with a taken name " + name for name in sorted(names & closed))
        for node in ast.walk(function):
            if isinstance(node, ast.Name) and isinstance(node.ctx, ast.Load):
                if node.id not in names and node.id not in known and node.id not in ALLOWED_BUILTINS:
                    faults.append("unknown name " + node.id)
        if "_" in {node.id for node in ast.walk(function) if isinstance(node, ast.Name)
                   and isinstance(node.ctx, ast.Load)}:
            faults.append("_ is read")
        known_builtins = set(dir(builtins)) - {"_"}
        faults.extend("builtin's name " + name for name in sorted((names | {function.name}) & known_builtins)
                      if not name.startswith("__"))
        faults.extend("barred name " + name for name in sorted((names | {function.name}) & BARRED_NAMES))
    for name in bound_names(tree):
        if name in dir(builtins) or name in BARRED_NAMES or name.startswith("__"):
            faults.append("barred name " + name)
    return faults


def library_names(tree):
    return {alias.name for node in tree.body if isinstance(node, ast.ImportFrom) and node.module in LIBRARY
            for alias in node.names if alias.name in LIBRARY[node.module]}


def library_faults(tree):
    """Faults of names of the library: each stands only in calls, and those without keywords."""
    names = library_names(tree)
    called = [node for node in ast.walk(tree) if isinstance(node, ast.Call) and isinstance(node.func, ast.Name)
              and node.func.id in names]
    faults = ["library with a keyword " + node.func.id for node in called if node.keywords]
    heads = [node.func for node in called]
    return faults + ["library not called " + node.id for node in ast.walk(tree) if isinstance(node, ast.Name)
                     and node.id in names and node not in heads]


def import_faults(tree):
    faults = library_faults(tree)
    used = {node.id for node in ast.walk(tree) if isinstance(node, ast.Name)}
    for node in tree.body:
        if isinstance(node, ast.ImportFrom):
            if node.module in LIBRARY and {alias.name for alias in node.names} <= LIBRARY[node.module]:
                continue
            if node.level or not node.module.startswith("purseahead."):
                faults.append("import from outside " + str(node.module))
            if any(alias.asname or alias.name == "*" for alias in node.names):
                faults.append("import by another name")
            faults.extend("unused import " + alias.name for alias in node.names if alias.name not in used)
    return faults


def constant_faults(node):
    if isinstance(node.value, (float, complex, bytes)):
        return ["literal " + repr(node.value)]
    if isinstance(node.value, str) and ("%" in node.value or node.value.endswith(("._", ".__"))
                                        or node.value.startswith("__")):
        return ["string " + node.value]
    return []


def compare_faults(node):
    faults = []
    for operator, other in zip(node.ops, node.comparators):
        if isinstance(operator, (ast.Is, ast.IsNot)):
            if not isinstance(other, ast.Constant) or other.value not in (None, True, False):
                faults.append("is")
    return faults


def call_faults(node):
    faults = []
    if isinstance(node.func, ast.Name) and node.func.id in ("any", "all", "min", "max", "sum", "sorted"):
        if isinstance(node.args[0], ast.GeneratorExp):
            faults.append("generator expression")
    if isinstance(node.func, ast.Name) and node.func.id in ALLOWED_BUILTINS:
        if any(keyword.arg not in ("key",) for keyword in node.keywords):
            faults.append("keyword of a builtin")
    return faults


def raise_faults(node):
    if isinstance(node.exc, ast.Call) and isinstance(node.exc.func, ast.Name) and node.cause is None:
        return []
    return ["raise"]


def try_faults(node):
    """Faults of a try statement: it catches own errors by name, once each, and nothing else."""
    faults = ["finally"] if node.finalbody else []
    for handler in node.handlers:
        kinds = handler.type.elts if isinstance(handler.type, ast.Tuple) else [handler.type]
        if handler.name or not all(isinstance(kind, ast.Name) and kind.id not in dir(builtins) for kind in kinds):
            faults.append("except")
    if any(isinstance(inner, (ast.Yield, ast.YieldFrom)) for inner in ast.walk(node)):
        faults.append("yield under a try")
    return faults


def with_faults(node):
    """Faults of a with statement: it is over a call, a name or an attribute, and nothing is yielded in it."""
    faults = []
    for item in node.items:
        if not isinstance(item.context_expr, (ast.Call, ast.Name, ast.Attribute)):
            faults.append("with")
        if item.optional_vars is not None and not isinstance(item.optional_vars, ast.Name):
            faults.append("with as")
    if any(isinstance(inner, (ast.Yield, ast.YieldFrom)) for inner in ast.walk(node)):
        faults.append("yield under a with")
    return faults


def exit_faults(node):
    """Faults of an __exit__: it has four parameters and only assigns names and attributes to attributes of one name."""
    faults = [] if len(arguments_of(node)) == 4 else ["parameters of __exit__"]
    for row in node.body:
        if not isinstance(row, ast.Assign) or not isinstance(row.value, (ast.Name, ast.Attribute)):
            faults.append("row of __exit__")
    read = {inner.id for inner in ast.walk(node) if isinstance(inner, ast.Name)}
    return faults + ["read in __exit__ " + name for name in sorted(read & set(arguments_of(node)[1:]))]


def definition_faults(node):
    faults = []
    for decorator in node.decorator_list:
        if not isinstance(decorator, ast.Name) or decorator.id not in ("property", "staticmethod"):
            faults.append("decorator")
    if isinstance(node, ast.FunctionDef):
        if node.name == "__exit__":
            faults.extend(exit_faults(node))
        if node.name.startswith("__") and node.name not in ALLOWED_DUNDERS:
            faults.append("method " + node.name)
        faults.extend("nested function" for inner in functions_of(node) if inner is not node)
    return faults


def statement_faults(tree):
    """Faults of single statements and expressions."""
    faults = []
    for node in ast.walk(tree):
        if not isinstance(node, ALLOWED_NODES):
            faults.append("not in use: " + node.__class__.__name__)
        if isinstance(node, ast.Constant):
            faults.extend(constant_faults(node))
        if isinstance(node, ast.Compare):
            faults.extend(compare_faults(node))
        if isinstance(node, ast.Call):
            faults.extend(call_faults(node))
        if isinstance(node, ast.With):
            faults.extend(with_faults(node))
        if isinstance(node, ast.Try):
            faults.extend(try_faults(node))
        if isinstance(node, ast.Raise):
            faults.extend(raise_faults(node))
        if isinstance(node, (ast.FunctionDef, ast.ClassDef)):
            faults.extend(definition_faults(node))
        if isinstance(node, ast.BinOp) and isinstance(node.op, ast.Pow):
            if not isinstance(node.right, ast.Constant) or not 0 <= node.right.value <= 64:
                faults.append("exponent")
    return faults


def word_faults(tree, text):
    strings = [node.value for node in ast.walk(tree) if isinstance(node, ast.Constant) and isinstance(node.value, str)]
    code = re.sub(r"#.*", "", ast.unparse(without_docstrings(ast.parse(text))))
    words = set(re.findall(r"\w+", code)) | {word for string in strings for word in re.findall(r"\w+", string)}
    return ["word " + word for word in sorted(words & BARRED_WORDS)]


def without_docstrings(tree):
    for node in ast.walk(tree):
        if isinstance(node, (ast.Module, ast.FunctionDef, ast.ClassDef)) and node.body:
            first = node.body[0]
            if isinstance(first, ast.Expr) and isinstance(first.value, ast.Constant):
                node.body[0] = ast.Pass()
    return tree


def faults_of(text):
    """All faults that show in the text of one file."""
    tree = ast.parse(text)
    return [*text_faults(text), *level_faults(tree), *size_faults(tree), *name_faults(tree), *import_faults(tree),
            *statement_faults(tree), *word_faults(tree, text)]


def generator_faults(tree, generators):
    """Faults of calls of generators: each is iterated at once."""
    faults = []
    for node in ast.walk(tree):
        for child in ast.iter_child_nodes(node):
            if isinstance(child, ast.Call) and isinstance(child.func, ast.Name) and child.func.id in generators:
                loop = isinstance(node, (ast.For, ast.comprehension)) and node.iter is child
                taken = isinstance(node, ast.Call) and isinstance(node.func, ast.Name) and node.func.id in AT_ONCE
                if not (loop or taken or isinstance(node, ast.YieldFrom)):
                    faults.append("generator kept " + child.func.id)
                if not all(isinstance(item, (ast.Name, ast.Attribute, ast.Constant)) for item in child.args):
                    faults.append("generator's argument " + child.func.id)
    return faults


class PackageForm(unittest.TestCase):
    def setUp(self):
        self.texts = sources()
        self.trees = {name: ast.parse(text) for name, text in self.texts.items()}

    def test_files(self):
        for name in package_files():
            self.assertRegex(name, r"\A([a-z]+|__init__)\.py\Z")
        self.assertEqual(len(self.trees["__init__.py"].body), 1)

    def test_each_file(self):
        for name, text in self.texts.items():
            with self.subTest(file=name):
                self.assertEqual(faults_of(text), [])

    def test_imports_name_the_defining_file(self):
        defined = {name[:-3]: defined_names(tree) for name, tree in self.trees.items()}
        for name, tree in self.trees.items():
            for node in tree.body:
                if isinstance(node, ast.ImportFrom) and node.module not in LIBRARY:
                    for alias in node.names:
                        with self.subTest(file=name, name=alias.name):
                            self.assertIn(alias.name, defined[node.module.split(".")[1]])

    def test_no_ring_of_imports(self):
        needs = {name[:-3]: {node.module.split(".")[1] for node in tree.body
                             if isinstance(node, ast.ImportFrom) and node.module not in LIBRARY}
                 for name, tree in self.trees.items()}
        while needs:
            free = [name for name, wanted in needs.items() if not wanted & set(needs)]
            self.assertTrue(free, needs)
            for name in free:
                del needs[name]

    def test_attributes_are_assigned_somewhere(self):
        stored, told, methods, read = set(), set(), set(), set()
        for tree in self.trees.values():
            for node in ast.walk(tree):
                if isinstance(node, ast.Attribute):
                    (stored if isinstance(node.ctx, ast.Store) else read).add(node.attr)
                if isinstance(node, ast.ClassDef):
                    methods.update(inner.name for inner in node.body if isinstance(inner, ast.FunctionDef))
                if isinstance(node, ast.Call) and isinstance(node.func, ast.Attribute):
                    told.add(node.func.attr)
        self.assertEqual(read - stored - methods - ALLOWED_METHODS, set())
        self.assertEqual(told - methods - ALLOWED_METHODS, set())
        self.assertEqual(stored & methods, set())
        self.assertEqual(stored & BARRED_ATTRIBUTES, set())
        self.assertEqual(methods & ALLOWED_METHODS, set())

    def test_generators_are_iterated_at_once(self):
        generators = {function.name for tree in self.trees.values() for function in functions_of(tree)
                      if is_generator(function)}
        self.assertGreaterEqual(generators, {"all_runs", "rings_of", "leads_along", "lot_demands", "least_lots",
                                             "all_work_runs", "all_weaves", "find_mends", "find_spoilers"})
        for name, tree in self.trees.items():
            with self.subTest(file=name):
                self.assertEqual(generator_faults(tree, generators), [])

    def test_errors_are_plain(self):
        for node in self.trees["errors.py"].body:
            if isinstance(node, ast.ClassDef):
                base = "ValueError" if node.name == "MeterError" else "MeterError"
                self.assertEqual([found.id for found in node.bases], [base])


class FaultsAreFound(unittest.TestCase):
    """Samples that leave the subset, so that the checks above do not pass by themselves."""

    def expect(self, text, fault):
        self.assertIn(fault, faults_of(text))

    def test_samples(self):
        self.expect("def f(n):\n    return n / 2\n", "not in use: Div")
        self.expect("def f(n):\n    return {n}\n", "not in use: Set")
        self.expect("def f(n):\n    return any(x for x in n)\n", "generator expression")
        self.expect("def f(n):\n    return n is 3\n", "is")
        self.expect("def f(n):\n    return 1.5\n", "literal 1.5")
        self.expect("def f(n):\n    return 2 ** n\n", "exponent")
        self.expect("def f(n):\n    n += 1\n", "not in use: AugAssign")
        self.expect("def f(id):\n    return id\n", "barred name id")
        self.expect("def f(n):\n    return open(n)\n", "unknown name open")
        self.expect("import os\n", "not in use: Import")
        self.expect("from os import path\n", "import from outside os")
        self.expect("xs = []\n", "value at module level")
        self.expect("a = 1\na = 2\n", "name bound twice")
        self.expect("class A:\n    pass\ndef f(A):\n    return A\n", "local with a taken name A")
        self.expect("def f():\n    return 0" + "\n" * 400 + "\n", "long file")
        self.expect("def f():\n" + "    f()\n" * 40, "long function f")
        self.expect("a = " + "1" * 120 + "\n", "long line")
        self.expect("a = '\u00e9'\n", "character")
        self.expect("a = '\t'\n", "character")
        self.expect("a = '%'\n", "string %")
        self.expect("def f(x):\n    return x == 'type'\n", "word type")
        self.expect("def f(x):\n    raise x\n", "raise")
        self.expect("from math import sqrt\n", "import from outside math")
        self.expect("from math import gcd\ndef f(n):\n    return [gcd]\n", "library not called gcd")
        self.expect("from math import gcd\ndef f(n):\n    return gcd(n, b=1)\n", "library with a keyword gcd")
        self.expect("def f(n):\n    try:\n        n()\n    except ValueError:\n        return 1\n", "except")
        self.expect("def f(n):\n    try:\n        n()\n    finally:\n        n = 1\n", "finally")
        self.expect("def f(n):\n    with n as n.a:\n        return 1\n", "with as")
        self.expect("def f(n):\n    with n:\n        yield 1\n", "yield under a with")
        self.expect("class A:\n    def __exit__(self, a, b, c):\n        self.n = b\n", "read in __exit__ b")
        self.expect("class A:\n    def __exit__(self, a, b, c):\n        self.n.pop()\n", "row of __exit__")
        self.expect("class A:\n    def __hash__(self):\n        return 1\n", "method __hash__")

    def test_generator_samples(self):
        tree = ast.parse("def f():\n    a = g(1)\n    return max(g(1))\n")
        self.assertEqual(generator_faults(tree, {"g"}), ["generator kept g", "generator kept g"])
        tree = ast.parse("def f(x):\n    for a in g(x, f(x)):\n        h(list(g(x)))\n")
        self.assertEqual(generator_faults(tree, {"g"}), ["generator's argument g"])


if __name__ == "__main__":
    unittest.main()
