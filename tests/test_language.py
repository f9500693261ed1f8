"""The package's files held against the rules of LANGUAGE.md that a program can see."""

import ast
import builtins
import pathlib
import re
import unittest

PACKAGE = pathlib.Path(__file__).resolve().parent.parent / "turnleaf"

FUNCTIONS = """len range enumerate zip min max sum abs sorted reversed int str bool list tuple dict set frozenset
isinstance ord repr any all divmod""".split()
ERRORS = """Exception ValueError TypeError KeyError IndexError LookupError ZeroDivisionError ArithmeticError
OverflowError RuntimeError NotImplementedError AttributeError StopIteration""".split()
METHODS = """append clear copy count endswith extend find get index insert isalnum isalpha isdigit islower isspace
isupper items join keys ljust lower lstrip partition pop remove replace reverse rfind rjust rpartition rsplit rstrip
setdefault split splitlines startswith strip update upper values zfill bit_length""".split()
TWO_UNDERSCORES = ["__init__", "__eq__", "__repr__", "__str__", "__len__"]
UNUSED = "register mro elements open input version_info with_traceback add_note format format_map".split()
WORDS = """type typing typing_extensions enum Enum IntEnum StrEnum Flag IntFlag Generic Protocol ABC ABCMeta namedtuple
NamedTuple TypedDict TYPE_CHECKING abstractmethod""".split()
FORBIDDEN_WORD = re.compile(r"\b(" + "|".join(WORDS) + r")\b|dataclass|overload|contextmanager")
FILE_NAME = re.compile(r"(__init__|__main__|[a-z][a-z0-9_]*)\.py")
NO_FILE_NAMES = ["test", "tests", "testing", "site", "conftest", "sitecustomize", "usercustomize"]
KEYWORDS = {"sorted": ["key", "reverse"], "min": ["key", "default"], "max": ["key", "default"], "sum": ["start"],
            "enumerate": ["start"], "zip": ["strict"]}

WALKED = ["zip", "enumerate", "reversed", "range"]
WALKED_METHODS = ["items", "keys", "values"]
WALKERS = ["list", "tuple", "dict", "sorted", "sum", "any", "all", "enumerate", "zip", "min", "max"]
CHANGING = ["append", "clear", "extend", "insert", "pop", "remove", "reverse", "setdefault", "update"]
VALUE_NAMES = "count index title find get join lower upper split strip copy add".split()
PYTHONS_OWN = {name for kind in (str, int, list, tuple, dict, set, bytes) for name in dir(kind) if name[0] != "_"}

STATEMENTS = (ast.Assign, ast.AugAssign, ast.If, ast.While, ast.For, ast.Return, ast.Break, ast.Continue, ast.Pass,
              ast.Raise, ast.Try, ast.Expr, ast.FunctionDef, ast.ClassDef, ast.ImportFrom)
EXPRESSIONS = (ast.Constant, ast.List, ast.Tuple, ast.Dict, ast.Set, ast.BinOp, ast.UnaryOp, ast.BoolOp, ast.Compare,
               ast.IfExp, ast.Call, ast.Attribute, ast.Subscript, ast.Slice, ast.ListComp, ast.JoinedStr,
               ast.FormattedValue, ast.Lambda, ast.Name)


def sign_faults(text):
    for number, line in enumerate(text.split("\n"), start=1):
        if len(line) > 120:
            yield number, "L10 a long line"
        if not all(" " <= sign <= "~" for sign in line):
            yield number, "L14 a sign beyond the plain ones"
        if FORBIDDEN_WORD.search(line):
            yield number, "L17 a word that stands nowhere"
    if text.count("\n") > 400:
        yield 400, "L10 a long file"


def is_docstring(node):
    return isinstance(node, ast.Expr) and isinstance(node.value, ast.Constant) and isinstance(node.value.value, str)


def is_plain(node):
    if isinstance(node, ast.UnaryOp) and isinstance(node.op, ast.USub):
        return is_plain(node.operand)
    if isinstance(node, (ast.List, ast.Tuple)):
        return all(is_plain(part) for part in node.elts)
    if isinstance(node, ast.Dict):
        return all(part is not None and is_plain(part) for part in node.keys + node.values)
    return isinstance(node, (ast.Constant, ast.Name))


def top_faults(tree):
    bound = []
    for place, node in enumerate(tree.body):
        if isinstance(node, ast.ImportFrom):
            if not re.fullmatch(r"turnleaf\.[a-z0-9_.]+", node.module or "") or node.level:
                yield node.lineno, "L2 an import from elsewhere"
            bound += [part.asname or part.name for part in node.names]
        elif isinstance(node, (ast.FunctionDef, ast.ClassDef)):
            bound.append(node.name)
        elif isinstance(node, ast.Assign) and is_plain(node.value):
            bound += [target.id for target in node.targets if isinstance(target, ast.Name)]
        elif place > 0 or not is_docstring(node):
            yield node.lineno, "L3 no thing for a module's top"
    for name in sorted(set(bound)):
        if bound.count(name) > 1:
            yield 1, f"L15 bound twice: {name}"


def function_faults(node):
    plain = node.args
    if plain.vararg or plain.kwarg or plain.kwonlyargs or plain.posonlyargs:
        yield node.lineno, "L4 no plain parameters"
    if not all(is_plain(value) for value in plain.defaults):
        yield node.lineno, "L4 no plain default"
    if isinstance(node, ast.FunctionDef):
        if node.decorator_list:
            yield node.lineno, "L4 a decorator"
        if node.end_lineno - node.lineno >= 40:
            yield node.lineno, "L10 a long function"


def class_faults(node, tree):
    if node not in tree.body:
        yield node.lineno, "L15 a class elsewhere than at the top"
    if node.decorator_list or node.keywords or len(node.bases) > 1:
        yield node.lineno, "L5 no plain class"
    for part in node.body:
        if not isinstance(part, (ast.FunctionDef, ast.Pass)) and not is_docstring(part):
            yield part.lineno, "L5 a value in a class"


def statement_faults(node):
    if not isinstance(node, STATEMENTS):
        yield node.lineno, "L6 another statement"
    if isinstance(node, ast.Assign) and len(node.targets) > 1:
        yield node.lineno, "L6 more than one target"
    if isinstance(node, (ast.For, ast.While)) and node.orelse:
        yield node.lineno, "L6 an else behind a loop"
    if isinstance(node, ast.Try) and node.finalbody:
        yield node.lineno, "L6 a finally"
    if isinstance(node, ast.Expr) and not isinstance(node.value, ast.Call) and not is_docstring(node):
        yield node.lineno, "L6 a value by itself"


def constant_faults(node):
    value = node.value
    if isinstance(value, (float, complex, bytes)) or value is Ellipsis:
        yield node.lineno, "L7 a value of another kind"
    if isinstance(value, str) and "%" in value:
        yield node.lineno, "L27 a sign within a text"


def comparison_faults(node):
    sides = [node.left] + node.comparators
    for place, op in enumerate(node.ops):
        beside = sides[place:place + 2]
        plain = any(isinstance(side, ast.Constant) and side.value in (None, True, False) for side in beside)
        if isinstance(op, (ast.Is, ast.IsNot)) and not plain:
            yield node.lineno, "L20 is beside another value"


def call_faults(node):
    name = node.func.id if isinstance(node.func, ast.Name) else None
    for keyword in node.keywords:
        if name in FUNCTIONS + ERRORS and keyword.arg not in KEYWORDS.get(name, []):
            yield node.lineno, "L22 a keyword"
        if keyword.arg is None:
            yield node.lineno, "L7 a star"


def expression_faults(node):
    if not isinstance(node, EXPRESSIONS):
        yield node.lineno, "L7 another expression"
    if isinstance(node, ast.BinOp) and isinstance(node.op, (ast.Div, ast.MatMult)):
        yield node.lineno, "L7 another operator"
    if isinstance(node, ast.BinOp) and isinstance(node.op, ast.Pow) and isinstance(node.left, ast.Constant):
        if node.left.value == 2 and not isinstance(node.right, ast.Constant):
            yield node.lineno, "L27 a power of 2"
    if isinstance(node, ast.ListComp):
        if len(node.generators) > 1 or len(node.generators[0].ifs) > 1:
            yield node.lineno, "L7 a comprehension with more"
    if isinstance(node, ast.FormattedValue):
        if not isinstance(node.value, ast.Name) or node.format_spec or node.conversion not in (-1, ord("r")):
            yield node.lineno, "L7 an f-string with more"
    for kind, faults in ((ast.Constant, constant_faults), (ast.Compare, comparison_faults), (ast.Call, call_faults)):
        if isinstance(node, kind):
            yield from faults(node)


def handler_faults(node):
    taken = node.type.elts if isinstance(node.type, ast.Tuple) else [node.type]
    for part in taken:
        if not isinstance(part, ast.Name) or part.id in ("Exception", "TypeError", "BaseException"):
            yield node.lineno, "L19 what is taken"


def names_bound(tree):
    for node in ast.walk(tree):
        if isinstance(node, (ast.FunctionDef, ast.ClassDef)):
            yield node.lineno, node.name
        elif isinstance(node, ast.arg):
            yield node.lineno, node.arg
        elif isinstance(node, ast.Name) and isinstance(node.ctx, ast.Store):
            yield node.lineno, node.id
        elif isinstance(node, ast.ExceptHandler) and node.name:
            yield node.lineno, node.name
        elif isinstance(node, ast.ImportFrom):
            for part in node.names:
                yield node.lineno, part.asname or part.name


def methods_of(tree):
    return [part for node in tree.body if isinstance(node, ast.ClassDef) for part in node.body
            if isinstance(part, ast.FunctionDef)]


def name_faults(tree):
    methods = [(node.lineno, node.name) for node in methods_of(tree)]
    bound = list(names_bound(tree))
    for line, name in bound:
        if name.startswith("_") and name not in TWO_UNDERSCORES:
            yield line, f"L12 a name with an underscore ahead: {name}"
        if hasattr(builtins, name) and (line, name) not in methods:
            yield line, f"L15 a name of Python's own: {name}"
        if name in UNUSED:
            yield line, f"L17 a name that is not used: {name}"
    known = FUNCTIONS + ERRORS + [name for line, name in bound]
    for node in ast.walk(tree):
        if isinstance(node, ast.Name) and node.id not in known:
            yield node.lineno, f"L8 another name: {node.id}"


def parents_of(tree):
    return {child: node for node in ast.walk(tree) for child in ast.iter_child_nodes(node)}


def called_name(node):
    return node.func.id if isinstance(node, ast.Call) and isinstance(node.func, ast.Name) else None


def called_method(node):
    return node.func.attr if isinstance(node, ast.Call) and isinstance(node.func, ast.Attribute) else None


def is_walked_at_once(node, parent):
    if isinstance(parent, (ast.For, ast.comprehension)):
        return node is parent.iter
    if called_method(parent) == "join":
        return isinstance(parent.func.value, ast.Constant)
    return called_name(parent) in WALKERS and node in parent.args


def is_asked_at_once(node, parent):
    if isinstance(parent, ast.Compare):
        return all(isinstance(op, (ast.In, ast.NotIn, ast.Eq, ast.NotEq)) for op in parent.ops)
    if isinstance(parent, ast.BinOp):
        return isinstance(parent.op, (ast.Sub, ast.BitAnd, ast.BitOr, ast.BitXor))
    return called_name(parent) in ("sorted", "len") and not parent.keywords


def handing_faults(tree):
    """What is walked, asked or called where it stands, and not kept or handed on."""
    parents = parents_of(tree)
    for node in ast.walk(tree):
        parent = parents.get(node)
        if called_name(node) in WALKED or (called_method(node) in WALKED_METHODS and not node.args):
            if not is_walked_at_once(node, parent):
                yield node.lineno, "L23 not walked on the spot"
        if called_name(node) in ("set", "frozenset") or isinstance(node, ast.Set):
            if not is_asked_at_once(node, parent):
                yield node.lineno, "L24 a set that is kept"
        if isinstance(node, ast.Attribute) and node.attr in METHODS and isinstance(node.ctx, ast.Load):
            if not (isinstance(parent, ast.Call) and parent.func is node) and not isinstance(parent, ast.keyword):
                yield node.lineno, "L25 a method handed on"
        if isinstance(node, ast.Name) and node.id in FUNCTIONS and not isinstance(parent, (ast.Call, ast.keyword)):
            if not (isinstance(parent, ast.Tuple) and called_name(parents.get(parent)) == "isinstance"):
                yield node.lineno, "L22 a function of Python's own kept as a value"


def loop_faults(tree):
    for loop in ast.walk(tree):
        if isinstance(loop, ast.For):
            walked = {ast.unparse(part) for part in ast.walk(loop.iter) if isinstance(part, (ast.Name, ast.Attribute))}
            for node in [part for statement in loop.body for part in ast.walk(statement)]:
                changed = called_method(node) in CHANGING and ast.unparse(node.func.value) in walked
                stored = isinstance(node, ast.Subscript) and isinstance(node.ctx, ast.Store)
                if changed or (stored and ast.unparse(node.value) in walked):
                    yield node.lineno, "L23 what is walked is changed"


def local_faults(tree):
    imports = [node for node in tree.body if isinstance(node, ast.ImportFrom)]
    imported = [part.asname or part.name for node in imports for part in node.names]
    taken = imported + [node.name for node in tree.body if isinstance(node, ast.ClassDef)]
    for node in ast.walk(tree):
        if isinstance(node, ast.arg) and (node.arg in taken or node.annotation):
            yield node.lineno, f"L15 or L21 of a parameter: {node.arg}"
        if isinstance(node, ast.Name) and isinstance(node.ctx, ast.Store) and node.id in taken:
            yield node.lineno, f"L15 a local like an import or a class: {node.id}"
        if isinstance(node, ast.FunctionDef) and node.returns:
            yield node.lineno, "L21 an annotation"
    for node in methods_of(tree):
        if node.name == "__init__" and any(isinstance(part, ast.Return) for part in ast.walk(node)):
            yield node.lineno, "L28 __init__ gives something back"


def is_class_use(node, parent, grand):
    if isinstance(parent, ast.Call):
        return parent.func is node or called_name(parent) == "isinstance"
    if isinstance(parent, ast.Tuple):
        return isinstance(grand, ast.ExceptHandler) or called_name(grand) == "isinstance"
    if isinstance(parent, ast.Attribute):
        return parent.attr == "__init__"
    return isinstance(parent, (ast.ClassDef, ast.ExceptHandler))


def class_use_faults(tree, classes):
    parents = parents_of(tree)
    for node in ast.walk(tree):
        if isinstance(node, ast.Name) and node.id in classes:
            parent = parents[node]
            if not is_class_use(node, parent, parents.get(parent)):
                yield f"{node.lineno} L18 a class handed on: {node.id}"


def file_faults(text):
    yield from sign_faults(text)
    tree = ast.parse(text)
    yield from top_faults(tree)
    yield from name_faults(tree)
    yield from handing_faults(tree)
    yield from loop_faults(tree)
    yield from local_faults(tree)
    for node in ast.walk(tree):
        if isinstance(node, (ast.FunctionDef, ast.Lambda)):
            yield from function_faults(node)
        if isinstance(node, ast.ClassDef):
            yield from class_faults(node, tree)
        if isinstance(node, ast.stmt):
            yield from statement_faults(node)
        if isinstance(node, ast.expr):
            yield from expression_faults(node)
        if isinstance(node, ast.ExceptHandler):
            yield from handler_faults(node)
        if isinstance(node, ast.ImportFrom) and node not in tree.body:
            yield node.lineno, "L2 an import elsewhere than at the top"


def values_given(tree):
    return [node.attr for node in ast.walk(tree) if isinstance(node, ast.Attribute) and isinstance(node.ctx, ast.Store)]


def package_faults(texts):
    """Of a dict from module name to text: what only shows across the files."""
    trees = {name: ast.parse(text) for name, text in texts.items()}
    methods = [node.name for tree in trees.values() for node in methods_of(tree)]
    values = [name for tree in trees.values() for name in values_given(tree)]
    for name in sorted(set(methods) & set(values)):
        yield f"L18 a method and a value: {name}"
    free = METHODS + ["add", "discard"] + TWO_UNDERSCORES
    for name in [name for name in methods if name in PYTHONS_OWN and name not in free]:
        yield f"L26 a method's name: {name}"
    for name in [name for name in values if name in PYTHONS_OWN | {"args"} and name not in VALUE_NAMES]:
        yield f"L26 a value's name: {name}"
    classes = [node.name for tree in trees.values() for node in tree.body if isinstance(node, ast.ClassDef)]
    for module, tree in trees.items():
        for fault in class_use_faults(tree, classes):
            yield f"{module}:{fault}"
        for node in ast.walk(tree):
            if isinstance(node, ast.Attribute) and node.attr not in METHODS + methods + values + TWO_UNDERSCORES:
                yield f"{module}:{node.lineno} L25 another method: {node.attr}"
    yield from import_faults(trees)


def defined(tree):
    names = [node.name for node in tree.body if isinstance(node, (ast.FunctionDef, ast.ClassDef))]
    return names + [target.id for node in tree.body if isinstance(node, ast.Assign) for target in node.targets]


def import_faults(trees):
    drawn = {module: [] for module in trees}
    for module, tree in trees.items():
        for node in tree.body:
            if isinstance(node, ast.ImportFrom):
                drawn[module].append(node.module)
                for part in node.names:
                    if node.module not in trees or part.name not in defined(trees[node.module]):
                        yield f"{module}:{node.lineno} L16 not defined there: {part.name}"
    for module in trees:
        reached = list(drawn[module])
        for other in reached:
            reached += [further for further in drawn.get(other, []) if further not in reached]
        if module in reached:
            yield f"{module} L16 draws from itself"


def narrower_faults(tree):
    """What the rules allow in part only, and the package does without: so those parts need no look."""
    own = [node.name for node in tree.body if isinstance(node, (ast.ClassDef, ast.FunctionDef))]
    own += [part.name for node in tree.body if isinstance(node, ast.ImportFrom) for part in node.names]
    for node in tree.body:
        if isinstance(node, ast.Assign) and not isinstance(node.value, ast.Constant):
            yield node.lineno, "L15 more than a plain value at the top"
    for node in methods_of(tree):
        if node.name in TWO_UNDERSCORES and node.name != "__init__":
            yield node.lineno, "L28 a method with two underscores"
    for node in ast.walk(tree):
        if isinstance(node, ast.Lambda):
            yield node.lineno, "L13 a lambda"
        if isinstance(node, ast.Set) or called_name(node) == "frozenset":
            yield node.lineno, "L13 a set written out"
        if isinstance(node, ast.ExceptHandler):
            taken = node.type.elts if isinstance(node.type, ast.Tuple) else [node.type]
            if not all(isinstance(part, ast.Name) and part.id in own for part in taken):
                yield node.lineno, "L19 an error of Python's own is taken"
        if isinstance(node, ast.Raise):
            if called_name(node.exc) not in own or not (node.cause is None or is_plain(node.cause)):
                yield node.lineno, "L19 what is raised"
        if isinstance(node, ast.ClassDef):
            if not all(isinstance(base, ast.Name) and base.id in own + ["ValueError"] for base in node.bases):
                yield node.lineno, "L5 another base"


def package_files():
    return [path for path in sorted(PACKAGE.rglob("*")) if "__pycache__" not in path.parts]


class ThePackage(unittest.TestCase):
    def test_its_folder_holds_files_of_plain_names_alone(self):
        self.assertIn(PACKAGE / "__init__.py", package_files())
        for path in package_files():
            with self.subTest(path=path):
                self.assertTrue(path.is_file())
                self.assertTrue(FILE_NAME.fullmatch(path.name))
                self.assertFalse(path.stem in NO_FILE_NAMES + WORDS or path.stem.startswith("test_"))
                self.assertFalse(path.stem != "__init__" and hasattr(builtins, path.stem))

    def test_each_file(self):
        for path in package_files():
            with self.subTest(path=path):
                text = path.read_text(encoding="utf-8")
                self.assertEqual([], list(file_faults(text)) + list(narrower_faults(ast.parse(text))))

    def test_the_files_together(self):
        texts = {f"turnleaf.{path.stem}": path.read_text(encoding="utf-8") for path in package_files()}
        self.assertEqual([], list(package_faults(texts)))


class TheCheck(unittest.TestCase):
    """A check that finds nothing anywhere would pass as well: so it is shown faults."""

    def test_faults_of_a_file_are_found(self):
        for rule, text in (
            ("L2", "from os import path\n"), ("L3", "print(1)\n"), ("L3", "A = 10 ** 18\n"),
            ("L4", "def f(*a):\n    return a\n"), ("L5", "class A:\n    x = 1\n"), ("L6", "def f():\n    assert 1\n"),
            ("L6", "def f():\n    a = b = 1\n    return a + b\n"), ("L7", "def f():\n    return 1 / 2\n"),
            ("L7", "A = 1.5\n"), ("L7", "def f(x):\n    return {a for a in x}\n"),
            ("L7", "def f(x):\n    return f'{x.y}'\n"), ("L8", "def f(x):\n    return map(x)\n"),
            ("L8", "def f(x):\n    return chr(x)\n"), ("L10", "A = '" + "a" * 120 + "'\n"),
            ("L10", "def f():\n" + "    f()\n" * 40), ("L10", "\n" * 401), ("L12", "def f(_a):\n    return _a\n"),
            ("L14", "# \u00e4\n"), ("L15", "A = 1\nA = 2\n"), ("L15", "def f(id):\n    return id\n"),
            ("L17", "# a type\n"), ("L17", "def register():\n    pass\n"),
            ("L19", "def f():\n    try:\n        f()\n    except Exception:\n        pass\n"),
            ("L20", "def f(x, y):\n    return x is y\n"), ("L22", "def f(x):\n    return int(x, base=2)\n"),
            ("L15", "class A:\n    pass\n\n\ndef f(A):\n    return A\n"),
            ("L15", "from turnleaf.b import c\ndef f():\n    c = 1\n"),
            ("L21", "def f() -> int:\n    return 1\n"), ("L22", "def f():\n    return len\n"),
            ("L23", "def f(x):\n    y = zip(x, x)\n    return list(y)\n"), ("L23", "def f(x):\n    return x.items()\n"),
            ("L23", "def f(x):\n    for y in x:\n        x.pop(y)\n"),
            ("L23", "def f(x):\n    for y, z in enumerate(x):\n        x[y] = z\n"),
            ("L24", "def f(x):\n    return set(x)\n"), ("L24", "def f(x):\n    for y in set(x):\n        f(y)\n"),
            ("L25", "def f(x):\n    y = x.append\n    y(1)\n"),
            ("L28", "class A:\n    def __init__(self):\n        return None\n"),
            ("L27", "A = '%'\n"), ("L27", "def f(n):\n    return 2 ** n\n"),
        ):
            with self.subTest(text=text[:60]):
                self.assertIn(rule, [fault.split()[0] for line, fault in file_faults(text)])

    def test_what_the_package_does_without_is_found(self):
        for rule, text in (
            ("L15", "A = [1]\n"), ("L15", "A = {}\n"), ("L13", "def f():\n    return lambda x: x\n"),
            ("L13", "def f(x):\n    return x in {1, 2, 3}\n"),
            ("L28", "class A:\n    def __len__(self):\n        return 0\n"),
            ("L19", "def f():\n    try:\n        f()\n    except ValueError:\n        pass\n"),
            ("L19", "def f():\n    try:\n        f()\n    except (f, KeyError):\n        pass\n"),
            ("L19", "def f():\n    raise ValueError('a')\n"), ("L19", "def f(e):\n    raise e\n"),
            ("L5", "class A(KeyError):\n    pass\n"),
        ):
            with self.subTest(text=text):
                self.assertIn(rule, [fault.split()[0] for line, fault in narrower_faults(ast.parse(text))])

    def test_faults_across_files_are_found(self):
        for rule, texts in (
            ("L16", {"turnleaf.a": "from turnleaf.b import c\n", "turnleaf.b": "c = 1\nfrom turnleaf.a import d\n"}),
            ("L16", {"turnleaf.a": "from turnleaf.b import c\n", "turnleaf.b": "d = 1\n"}),
            ("L18", {"turnleaf.a": "class A:\n    def row(self):\n        self.row = 1\n"}),
            ("L18", {"turnleaf.a": "class A:\n    pass\n\n\ndef f():\n    return [A]\n"}),
            ("L26", {"turnleaf.a": "class A:\n    def title(self):\n        pass\n"}),
            ("L26", {"turnleaf.a": "class A:\n    def __init__(self):\n        self.items = 1\n"}),
            ("L25", {"turnleaf.a": "def f(x):\n    return x.casefold()\n"}),
        ):
            with self.subTest(texts=texts):
                self.assertTrue([fault for fault in package_faults(texts) if rule in fault.split()])


if __name__ == "__main__":
    unittest.main()
