"""The files of the package keep the rules of LANGUAGE.md, as far as a script can tell."""

import ast
import builtins
import io
import keyword
import os
import re
import sys
import tokenize
import unittest
import warnings

ROOT = os.path.dirname(os.path.dirname(os.path.abspath(__file__)))
PACKAGE = os.path.join(ROOT, "leanwebs")

LIBRARY = {"math": {"gcd", "lcm", "isqrt", "comb", "perm", "factorial"}}
BUILTINS = set(
    "len range enumerate zip min max sum abs sorted reversed int str bool list tuple dict set isinstance ord repr any "
    "all divmod iter Exception ValueError TypeError KeyError IndexError LookupError ZeroDivisionError ArithmeticError "
    "OverflowError RuntimeError NotImplementedError NotImplemented super property classmethod staticmethod".split())
DUNDERS = set(
    "__init__ __eq__ __repr__ __str__ __len__ __enter__ __exit__ __call__ __iter__ __lt__ __le__ __gt__ __ge__ __ne__ "
    "__add__ __sub__ __mul__ __neg__ __abs__ __bool__ __contains__ __getitem__".split())
METHODS = set(
    "append clear copy count endswith extend find get index insert isalnum isalpha isdigit islower isspace isupper "
    "items join keys ljust lower lstrip partition pop remove replace reverse rfind rjust rpartition rsplit rstrip "
    "setdefault split splitlines startswith strip update upper values zfill bit_length add discard".split())
NOT_ANYWHERE = set("register mro elements open input law version_info with_traceback add_note".split())
NOT_NAMES = set(
    "attrgetter breakpoint builtins compile copyright credits delattr dir eval exec exit gc getattr globals hasattr "
    "help id importlib license locals methodcaller os quit setattr type vars sys __name__".split())
NOT_WORDS = re.compile(
    r"\b(type|typing|typing_extensions|enum|Enum|IntEnum|StrEnum|Flag|IntFlag|Generic|Protocol|ABC|ABCMeta|namedtuple|"
    r"NamedTuple|TypedDict|TYPE_CHECKING|abstractmethod)\b|dataclass|overload|contextmanager")
NOT_STARTS = ("_wall", "_pe_", "_dcw_", "_enum_", "_cm_", "_twin_re_", "_lay_", "_law_", "_stub_", "_sre", "_WallAttr")
NOT_FILES = set("test tests testing site conftest sitecustomize usercustomize".split())
FORBIDDEN = (
    ast.Global, ast.AsyncFunctionDef, ast.AsyncFor, ast.AsyncWith, ast.Await, ast.Div, ast.MatMult, ast.GeneratorExp,
    ast.YieldFrom, ast.AnnAssign, ast.With, ast.Import, ast.NamedExpr, ast.Nonlocal, ast.Set, ast.SetComp,
    ast.Match)


def all_functions(tree):
    return [node for node in ast.walk(tree) if isinstance(node, (ast.FunctionDef, ast.Lambda))]


def arguments_of(function):
    told = function.args
    rows = told.posonlyargs + told.args + told.kwonlyargs
    return rows + [one for one in (told.vararg, told.kwarg) if one is not None]


def is_plain(node):
    """Whether the node is a literal value, or a tuple of such."""
    return isinstance(node, ast.Constant) or isinstance(node, ast.Tuple) and all(is_plain(one) for one in node.elts)


def docstrings(tree):
    """The string nodes that are docstrings."""
    found = []
    for node in ast.walk(tree):
        if isinstance(node, (ast.Module, ast.ClassDef, ast.FunctionDef)) and node.body:
            first = node.body[0]
            if isinstance(first, ast.Expr) and isinstance(first.value, ast.Constant) \
                    and isinstance(first.value.value, str):
                found.append(first.value)
    return found


def check_text(text):
    """L10, L14: sizes and characters."""
    found = []
    rows = text.split("\n")
    if len(rows) - 1 > 399:
        found.append("L10 file too long")
    for at, row in enumerate(rows):
        if len(row) > 120 or "\t" in row:
            found.append(f"L10 line {at + 1}")
        if any(not " " <= letter <= "~" for letter in row):
            found.append(f"L14 character in line {at + 1}")
    if "_wall" in text or "_WallAttr" in text:
        found.append("L12 word")
    if re.search(r"\(type\)|Meta|metaclass=", text):
        found.append("L17 word beside __getitem__")
    return found


def check_imports(tree):
    """L2, L16: imports stand at the top and have one form."""
    found = []
    done = False
    for at, node in enumerate(tree.body):
        if isinstance(node, ast.ImportFrom):
            if done:
                found.append(f"L2 late import in line {node.lineno}")
            if node.level or any(name.name == "*" or name.asname for name in node.names):
                found.append(f"L2 form in line {node.lineno}")
            known = LIBRARY.get(node.module)
            if known is None and not node.module.startswith("leanwebs."):
                found.append(f"L2 module in line {node.lineno}")
            if known is not None and any(name.name not in known for name in node.names):
                found.append(f"L2 library in line {node.lineno}")
        elif at or not isinstance(node, ast.Expr):
            done = True
    nested = [node for node in ast.walk(tree) if isinstance(node, (ast.Import, ast.ImportFrom))]
    if len(nested) != len([node for node in tree.body if isinstance(node, ast.ImportFrom)]):
        found.append("L2 import not at module level")
    return found


def check_module_level(tree):
    """L3, L15: what a module contains, each name bound once."""
    found = []
    names = []
    for at, node in enumerate(tree.body):
        if isinstance(node, (ast.FunctionDef, ast.ClassDef)):
            names.append(node.name)
        elif isinstance(node, ast.ImportFrom):
            names.extend(name.name for name in node.names)
        elif isinstance(node, ast.Assign):
            if len(node.targets) != 1 or not isinstance(node.targets[0], ast.Name) or not is_plain(node.value):
                found.append(f"L3 assignment in line {node.lineno}")
            else:
                names.append(node.targets[0].id)
        elif not (at == 0 and isinstance(node, ast.Expr) and isinstance(node.value, ast.Constant)):
            found.append(f"L3 statement in line {node.lineno}")
    found.extend(f"L15 name {name} bound twice" for name in names if names.count(name) > 1)
    found.extend(f"L15 name {name} of a builtin" for name in names if hasattr(builtins, name))
    return found


def check_nodes(tree):
    """L6, L7, L20, L27: statements and expressions that are not used."""
    found = []
    for node in ast.walk(tree):
        line = getattr(node, "lineno", 0)
        if isinstance(node, FORBIDDEN) and not isinstance(node, ast.Import):
            found.append(f"L6/L7 {type(node).__name__} in line {line}")
        if isinstance(node, ast.Constant) and isinstance(node.value, (float, complex, bytes)):
            found.append(f"L7 value in line {line}")
        if isinstance(node, ast.Pow) or isinstance(node, ast.BinOp) and isinstance(node.op, ast.Pow):
            exponent = getattr(node, "right", None)
            if exponent is not None and not (isinstance(exponent, ast.Constant) and 0 <= exponent.value <= 64):
                found.append(f"L27 exponent in line {line}")
        if isinstance(node, ast.Compare):
            for operator, right in zip(node.ops, node.comparators):
                if isinstance(operator, (ast.Is, ast.IsNot)) and not (
                        isinstance(right, ast.Constant) and right.value in (None, True, False)):
                    found.append(f"L20 in line {line}")
        if isinstance(node, ast.ExceptHandler) and node.type is None:
            found.append(f"L6 bare except in line {line}")
        if isinstance(node, ast.Try) and node.finalbody:
            found.append(f"L6 finally in line {line}")
        if isinstance(node, ast.Raise) and node.exc is not None and not (
                isinstance(node.exc, ast.Call) and isinstance(node.exc.func, ast.Name)):
            found.append(f"L19 raise in line {line}")
    return found


def check_handlers(tree):
    """L19: only own errors are caught."""
    found = []
    for node in ast.walk(tree):
        if isinstance(node, ast.ExceptHandler) and node.type is not None:
            rows = node.type.elts if isinstance(node.type, ast.Tuple) else [node.type]
            found.extend(f"L19 handler in line {node.lineno}" for row in rows
                         if not isinstance(row, ast.Name) or hasattr(builtins, row.id))
    return found


def check_functions(tree):
    """L4, L10, L21: sizes, decorators, defaults and annotations."""
    found = []
    for node in all_functions(tree):
        if isinstance(node, ast.Lambda):
            continue
        if node.end_lineno - node.lineno + 1 > 40:
            found.append(f"L10 function {node.name}")
        for one in node.decorator_list:
            if not (isinstance(one, ast.Name) and one.id in ("property", "classmethod", "staticmethod")):
                found.append(f"L4 decorator of {node.name}")
        if node.returns is not None or any(one.annotation is not None for one in arguments_of(node)):
            found.append(f"L21 annotation of {node.name}")
        defaults = [one for one in node.args.defaults + node.args.kw_defaults if one is not None]
        for one in defaults:
            if not (isinstance(one, ast.Constant) or isinstance(one, ast.Tuple) and not one.elts):
                found.append(f"L4 default of {node.name}")
        for inner in ast.walk(node):
            if inner is not node and isinstance(inner, (ast.FunctionDef, ast.ClassDef)):
                found.append(f"nested definition in {node.name}")
    return found


def bound_in(function):
    """The names that a function binds: parameters, targets and caught errors."""
    names = [one.arg for one in arguments_of(function)]
    for node in ast.walk(function):
        if isinstance(node, ast.Name) and isinstance(node.ctx, ast.Store):
            names.append(node.id)
        elif isinstance(node, ast.ExceptHandler) and node.name:
            names.append(node.name)
        elif isinstance(node, ast.Lambda):
            names.extend(one.arg for one in arguments_of(node))
    return set(names)


def check_names(tree):
    """L8, L12, L15, L17: names."""
    found = []
    top = set()
    for node in tree.body:
        if isinstance(node, ast.ImportFrom):
            top.update(name.name for name in node.names)
        elif isinstance(node, ast.ClassDef):
            top.add(node.name)
    module = top | {node.name for node in tree.body if isinstance(node, ast.FunctionDef)}
    module |= {target.id for node in tree.body if isinstance(node, ast.Assign) for target in node.targets
               if isinstance(target, ast.Name)}
    local = set()
    for function in all_functions(tree):
        names = bound_in(function)
        local |= names
        found.extend(f"L15 local name {name} of an import or class" for name in names & top)
        found.extend(f"L15 local name {name} of a builtin" for name in names if hasattr(builtins, name))
    used = set()
    for node in ast.walk(tree):
        if isinstance(node, ast.Name):
            used.add(node.id)
            if node.id == "_" and isinstance(node.ctx, ast.Load):
                found.append(f"L12 _ read in line {node.lineno}")
            if isinstance(node.ctx, ast.Load) and node.id not in module | local | BUILTINS:
                found.append(f"L8 name {node.id} in line {node.lineno}")
        elif isinstance(node, ast.Attribute):
            used.add(node.attr)
        elif isinstance(node, (ast.FunctionDef, ast.ClassDef)):
            used.add(node.name)
        elif isinstance(node, ast.arg):
            used.add(node.arg)
    for name in used:
        if not re.fullmatch(r"_|_?[A-Za-z][A-Za-z0-9_]*", name) and name not in DUNDERS:
            found.append(f"L12 name {name}")
        if name.startswith(NOT_STARTS) or name in NOT_ANYWHERE or name in NOT_NAMES:
            found.append(f"L17 name {name}")
    return found


def check_strings(text, tree):
    """L17, L27: what strings and code contain."""
    found = []
    told = docstrings(tree)
    for node in ast.walk(tree):
        if isinstance(node, ast.Constant) and isinstance(node.value, str):
            if "%" in node.value or re.search(r"\._+$", node.value) or re.fullmatch(r"__.*__", node.value):
                found.append(f"L27 string in line {node.lineno}")
            if not any(node is one for one in told) and NOT_WORDS.search(node.value):
                found.append(f"L17 word in line {node.lineno}")
        if isinstance(node, ast.Constant) and isinstance(node.value, int) and abs(node.value) >= 10 ** 900:
            found.append(f"L27 number in line {node.lineno}")
    for token in tokenize.generate_tokens(io.StringIO(text).readline):
        if token.type == tokenize.NAME and NOT_WORDS.search(token.string):
            found.append(f"L17 word in line {token.start[0]}")
        if token.type == tokenize.STRING:
            found.extend(f"L27 escape in line {token.start[0]}" for escape in re.findall(r"\\(.)", token.string)
                         if escape not in "nt\\\"'")
    return found


def check_classes(tree):
    """L5, L18: what classes contain."""
    found = []
    for node in tree.body:
        if not isinstance(node, ast.ClassDef):
            continue
        names = []
        for part in node.body:
            if isinstance(part, ast.FunctionDef):
                names.append(part.name)
                if part.name.startswith("__") and part.name not in DUNDERS:
                    found.append(f"L5 method {part.name}")
            elif isinstance(part, ast.Assign):
                if len(part.targets) != 1 or not isinstance(part.value, ast.Constant):
                    found.append(f"L5 class value in line {part.lineno}")
                names.append(part.targets[0].id)
            elif not (isinstance(part, ast.Expr) and isinstance(part.value, ast.Constant)):
                found.append(f"L5 statement in line {part.lineno}")
        if "__getitem__" in names and "__iter__" not in names:
            found.append(f"L5 {node.name} without __iter__")
        attributes = attributes_of(node)
        found.extend(f"L18 {name} twice in {node.name}" for name in set(names) if names.count(name) > 1)
        found.extend(f"L18 {name} in {node.name}" for name in attributes & set(names))
        if node.decorator_list or node.keywords:
            found.append(f"L5 class {node.name}")
    return found


def attributes_of(tree):
    return {node.attr for node in ast.walk(tree) if isinstance(node, ast.Attribute) and isinstance(node.ctx, ast.Store)}


def check_methods(trees):
    """L18, L25: attributes that are read or called are methods or attributes of the package, or allowed ones."""
    found = []
    own = set()
    for tree in trees.values():
        own |= attributes_of(tree)
        for node in ast.walk(tree):
            if isinstance(node, ast.ClassDef):
                own |= {part.name for part in node.body if isinstance(part, ast.FunctionDef)}
                own |= {part.targets[0].id for part in node.body if isinstance(part, ast.Assign)}
    for name, tree in trees.items():
        for node in ast.walk(tree):
            if isinstance(node, ast.Attribute) and node.attr not in own | METHODS:
                found.append(f"L25 {node.attr} in {name}, line {node.lineno}")
    return found


def calls_of(tree, name):
    return [node for node in ast.walk(tree)
            if isinstance(node, ast.Call) and isinstance(node.func, ast.Name) and node.func.id == name]


def iterated_at_once(tree, words):
    """The nodes behind the in of a loop or a comprehension, and first arguments of builtins with these names."""
    fine = set()
    for node in ast.walk(tree):
        if isinstance(node, (ast.For, ast.comprehension)):
            fine.add(id(node.iter))
        if isinstance(node, ast.Call) and isinstance(node.func, ast.Name) and node.args and node.func.id in words:
            fine.add(id(node.args[0]))
    return fine


def check_iterated(tree):
    """L23, L24: where set, zip, enumerate, range and the like stand."""
    found = []
    fine = iterated_at_once(tree, ("list", "tuple", "sorted", "sum", "len", "enumerate", "zip"))
    for name in ("set", "zip", "enumerate", "range", "reversed"):
        found.extend(f"L23 {name} in line {node.lineno}" for node in calls_of(tree, name) if id(node) not in fine)
    for node in ast.walk(tree):
        if isinstance(node, ast.Call) and isinstance(node.func, ast.Attribute) \
                and node.func.attr in ("items", "keys", "values") and id(node) not in fine:
            found.append(f"L23 {node.func.attr} in line {node.lineno}")
        if isinstance(node, (ast.For, ast.comprehension)) and isinstance(node.iter, ast.Call) \
                and isinstance(node.iter.func, ast.Name) and node.iter.func.id == "set":
            found.append("L24 set iterated")
    for call in calls_of(tree, "set"):
        uses = [node for node in ast.walk(tree) if isinstance(node, ast.Call) and call in node.args]
        if not all(isinstance(use.func, ast.Name) and use.func.id in ("len", "sorted") for use in uses):
            found.append(f"L24 set in line {call.lineno}")
    return found


def changed_in(node):
    """The names of what a statement changes in place: by an item, by del or by a method that modifies."""
    if isinstance(node, ast.Subscript) and not isinstance(node.ctx, ast.Load) and isinstance(node.value, ast.Name):
        return [node.value.id]
    if isinstance(node, ast.Call) and isinstance(node.func, ast.Attribute) and isinstance(node.func.value, ast.Name) \
            and node.func.attr in ("append", "clear", "extend", "insert", "pop", "remove", "reverse", "update"):
        return [node.func.value.id]
    return []


def check_loops(tree):
    """L23: what a loop iterates over is not modified in the loop."""
    found = []
    for loop in ast.walk(tree):
        if isinstance(loop, ast.For):
            over = {node.id for node in ast.walk(loop.iter) if isinstance(node, ast.Name)}
            for row in loop.body:
                for node in ast.walk(row):
                    found.extend(f"L23 loop over {name} in line {loop.lineno}" for name in changed_in(node) if name in over)
    return found


def yields_of(function):
    return [node for node in ast.walk(function) if isinstance(node, ast.Yield)]


def check_generators(tree):
    """L23: a generator stands at module level; each yield is a statement, under no try; it returns no value."""
    found = []
    plain = [node for node in tree.body if isinstance(node, ast.FunctionDef)]
    statements = {id(node.value) for node in ast.walk(tree) if isinstance(node, ast.Expr)}
    for function in all_functions(tree):
        for node in yields_of(function):
            if function not in plain or id(node) not in statements or node.value is None:
                found.append(f"L23 yield in line {node.lineno}")
        if yields_of(function):
            found.extend(f"L23 try in line {node.lineno}" for node in ast.walk(function) if isinstance(node, ast.Try))
            found.extend(f"L23 return in line {node.lineno}" for node in ast.walk(function)
                         if isinstance(node, ast.Return) and node.value is not None)
    return found


def check_generator_names(trees):
    """L23: a generator has its name alone, and is only called, where it is iterated at once."""
    found = []
    names = [node.name for tree in trees.values() for node in ast.walk(tree) if isinstance(node, ast.FunctionDef)]
    generators = {node.name for tree in trees.values() for node in all_functions(tree)
                  if isinstance(node, ast.FunctionDef) and yields_of(node)}
    found.extend(f"L23 name {name}" for name in generators if names.count(name) > 1 or name in METHODS)
    for name, tree in trees.items():
        fine = iterated_at_once(tree, ("list", "tuple"))
        called = {id(node.func) for node in ast.walk(tree) if isinstance(node, ast.Call) and id(node) in fine}
        found.extend(f"L23 {node.id} in {name}, line {node.lineno}" for node in ast.walk(tree)
                     if isinstance(node, ast.Name) and node.id in generators and id(node) not in called)
    return found


def check_source(text):
    """All that one file can break by itself."""
    tree = ast.parse(text)
    found = check_text(text)
    for check in (check_imports, check_module_level, check_nodes, check_handlers, check_functions, check_names,
                  check_classes, check_iterated, check_generators, check_loops):
        found.extend(check(tree))
    return found + check_strings(text, tree)


def package_texts():
    found = {}
    for name in sorted(os.listdir(PACKAGE)):
        if name != "__pycache__":
            with open(os.path.join(PACKAGE, name), encoding="utf-8") as held:
                found[name] = held.read()
    return found


class TestPackage(unittest.TestCase):
    def setUp(self):
        self.texts = package_texts()
        self.trees = {name: ast.parse(text) for name, text in self.texts.items()}

    def test_files(self):
        self.assertIn("__init__.py", self.texts)
        self.assertLessEqual(len(self.texts), 100)
        for name in self.texts:
            stem = name[:-3]
            self.assertRegex(name, r"\A[a-z0-9_]+\.py\Z")
            self.assertFalse(stem in NOT_FILES or stem.startswith(("law_", "test_")), name)
            self.assertFalse(stem in vars(builtins) or keyword.iskeyword(stem), name)
        self.assertNotIn("leanwebs", sys.stdlib_module_names)

    def test_each_file(self):
        for name, text in self.texts.items():
            with self.subTest(name):
                self.assertEqual(check_source(text), [])

    def test_methods(self):
        self.assertEqual(check_methods(self.trees), [])

    def test_generators(self):
        self.assertEqual(check_generator_names(self.trees), [])

    def imports_of(self, name):
        return [node for node in self.trees[name].body
                if isinstance(node, ast.ImportFrom) and node.module.startswith("leanwebs.")]

    def test_imported_names_are_defined_in_that_file_and_used(self):
        for name in self.texts:
            read = {node.id for node in ast.walk(self.trees[name]) if isinstance(node, ast.Name)}
            for node in self.imports_of(name):
                source = self.trees[node.module.split(".")[1] + ".py"]
                defined = {part.name for part in source.body if isinstance(part, (ast.FunctionDef, ast.ClassDef))}
                defined |= {part.targets[0].id for part in source.body if isinstance(part, ast.Assign)}
                for one in node.names:
                    self.assertIn(one.name, defined, name)
                    self.assertIn(one.name, read, name)

    def test_no_two_files_import_from_each_other(self):
        done = set()

        def visit(name, above):
            self.assertNotIn(name, above)
            if name not in done:
                for node in self.imports_of(name):
                    visit(node.module.split(".")[1] + ".py", above + [name])
                done.add(name)

        for name in self.texts:
            visit(name, [])

    def test_static_names_and_properties_stand_alone(self):
        plain, special = [], []
        for tree in self.trees.values():
            for node in ast.walk(tree):
                if isinstance(node, ast.ClassDef):
                    for part in node.body:
                        if isinstance(part, ast.FunctionDef):
                            (special if part.decorator_list else plain).append(part.name)
                        elif isinstance(part, ast.Assign):
                            special.append(part.targets[0].id)
        stored = set().union(*[attributes_of(tree) for tree in self.trees.values()])
        for name in special:
            self.assertEqual(special.count(name), 1, name)
            self.assertNotIn(name, plain)
            self.assertNotIn(name, stored)
            self.assertNotIn(name, METHODS)

    def test_no_warning(self):
        for name, text in self.texts.items():
            with self.subTest(name), warnings.catch_warnings():
                warnings.simplefilter("error")
                compile(text, name, "exec")


class TestChecks(unittest.TestCase):
    """The checks find what they are there for."""

    def test_good(self):
        self.assertEqual(check_source('"""Words."""\n\nMOST = 3\n\n\ndef f(x, *, y=()):\n    return [x, y, MOST]\n'), [])

    def test_bad(self):
        for rule, text in (
                ("L2", "import math\n"), ("L2", "from os import path\n"), ("L2", "from .lots import lots\n"),
                ("L2", "from leanwebs.lots import lots as other\n"), ("L2", "from math import pi\n"),
                ("L2", "def f():\n    from math import gcd\n"), ("L2", "X = 1\nfrom math import gcd\n"),
                ("L3", "X = [len]\nprint(X)\n"), ("L3", "A, B = 1, 2\n"), ("L15", "X = 1\nX = 2\n"),
                ("L4", "@cached\ndef f():\n    return 1\n"), ("L4", "def f(x=[]):\n    return x\n"),
                ("L5", "class A:\n    def __hash__(self):\n        return 1\n"),
                ("L5", "class A:\n    def __getitem__(self, at):\n        return at\n"),
                ("L6", "def f():\n    global X\n"), ("L6", "def f():\n    try:\n        return 1\n    except:\n        return\n"),
                ("L7", "def f(x):\n    return x / 2\n"), ("L7", "def f():\n    return 0.5\n"),
                ("L7", "def f(xs):\n    return sum(x for x in xs)\n"), ("L8", "def f(x):\n    return print(x)\n"),
                ("L10", "def f():\n" + "    pass\n" * 40), ("L10", "X = 1\n" * 400), ("L10", "X = 1  #" + "x" * 120 + "\n"),
                ("L12", "def __f():\n    return 1\n"), ("L12", "def f(_):\n    return _\n"),
                ("L14", "# \u00e9\n"), ("L15", "from math import gcd\n\n\ndef f(gcd):\n    return gcd\n"),
                ("L15", "def f(hash):\n    return hash\n"), ("L17", "def f(x):\n    return x.elements\n"),
                ("L17", 'X = "an enum"\n'), ("L18", "class A:\n    def f(self):\n        self.f = 1\n"),
                ("L19", "def f():\n    try:\n        return 1\n    except TypeError:\n        return 2\n"),
                ("L20", "def f(x, y):\n    return x is y\n"), ("L21", "def f(x: int):\n    return x\n"),
                ("L23", "def f(x):\n    y = zip(x, x)\n    return y\n"), ("L24", "def f(x):\n    return [y for y in set(x)]\n"),
                ("L27", "def f(x):\n    return 2 ** x\n"), ("L27", 'X = "5 %"\n'), ("L27", 'X = "\\x41"\n'),
                ("L27", "X = " + "1" + "0" * 900 + "\n")):
            with self.subTest(text):
                self.assertTrue(any(rule in row for row in check_source(text)), check_source(text))

    def test_bad_generators(self):
        for text in ("def f(x):\n    y = yield x\n", "def f(x):\n    yield x\n    return x\n",
                     "class A:\n    def f(self):\n        yield self\n",
                     "def f(x):\n    try:\n        yield x\n    except Bad:\n        pass\n"):
            self.assertTrue(any("L23" in row for row in check_source(text)), text)
        good = "def f(x):\n    yield x\n\n\ndef g(x):\n    return [y for y in f(x)]\n"
        self.assertEqual(check_generator_names({"a.py": ast.parse(good)}), [])
        for text in ("def h(x):\n    y = f(x)\n    return y\n", "def h(x):\n    return x in f(x)\n", "def f(x):\n    return x\n"):
            self.assertEqual(len(check_generator_names({"a.py": ast.parse(good), "b.py": ast.parse(text)})), 1)

    def test_bad_loops(self):
        for text in ("for x in xs:\n        xs.append(x)", "for k, x in enumerate(xs):\n        xs[k] = x",
                     "for x in zip(ys, xs):\n        if x:\n            del xs[0]", "for x in xs:\n        xs[0] += 1"):
            self.assertTrue(any("L23 loop" in row for row in check_source(f"def f(xs, ys):\n    {text}\n")), text)

    def test_bad_method(self):
        self.assertEqual(check_methods({"a.py": ast.parse("X = b.encode()\n")}), ["L25 encode in a.py, line 1"])


if __name__ == "__main__":
    unittest.main()
