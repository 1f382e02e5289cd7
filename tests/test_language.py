"""Holds the package's files to the part of Python they keep to, as far as their form alone shows it."""

import ast
import builtins
import pathlib
import re
import unittest

PACKAGE = pathlib.Path(__file__).resolve().parent.parent / "reelhall"

OWN_NAMES = set("""len range enumerate zip min max sum abs sorted reversed int str bool list tuple dict set frozenset
    isinstance ord repr any all divmod Exception ValueError TypeError KeyError IndexError LookupError
    ZeroDivisionError ArithmeticError OverflowError RuntimeError NotImplementedError AttributeError
    StopIteration""".split())
METHODS = set("""append clear copy count endswith extend find get index insert isalnum isalpha isdigit islower isspace
    isupper items join keys ljust lower lstrip partition pop remove replace reverse rfind rjust rpartition rsplit
    rstrip setdefault split splitlines startswith strip update upper values zfill bit_length""".split())
UNDERSCORED = {"__init__", "__eq__", "__repr__", "__str__", "__len__", "__all__", "__version__"}
WORDS_NOWHERE = re.compile(r"\b(type|typing|typing_extensions|enum|Enum|IntEnum|StrEnum|Flag|IntFlag|Generic|Protocol|"
                           r"ABC|ABCMeta|namedtuple|NamedTuple|TypedDict|TYPE_CHECKING|abstractmethod)\b|"
                           r"dataclass|overload|contextmanager")
PLAIN_KINDS = (str, int, list, tuple, dict, set, frozenset, bytes)
WALKERS = ("list", "tuple", "dict", "sorted", "sum", "any", "all", "enumerate", "zip", "min", "max")
NODES = (ast.Module, ast.ImportFrom, ast.alias, ast.FunctionDef, ast.ClassDef, ast.arguments, ast.arg, ast.Lambda,
         ast.Assign, ast.AugAssign, ast.If, ast.While, ast.For, ast.Return, ast.Break, ast.Continue, ast.Pass,
         ast.Raise, ast.Try, ast.ExceptHandler, ast.Expr, ast.Constant, ast.Name, ast.List, ast.Tuple, ast.Dict,
         ast.BinOp, ast.UnaryOp, ast.BoolOp, ast.Compare, ast.IfExp, ast.Call, ast.keyword, ast.Attribute,
         ast.Subscript, ast.Slice, ast.ListComp, ast.comprehension, ast.JoinedStr, ast.FormattedValue,
         ast.expr_context, ast.operator, ast.unaryop, ast.boolop, ast.cmpop)


def files():
    return sorted(p for p in PACKAGE.rglob("*") if p.is_file() and "__pycache__" not in p.parts)


def bound_names(tree):
    for node in ast.walk(tree):
        if isinstance(node, (ast.FunctionDef, ast.ClassDef)):
            yield node.name
        elif isinstance(node, ast.arg):
            yield node.arg
        elif isinstance(node, ast.Name) and isinstance(node.ctx, ast.Store):
            yield node.id
        elif isinstance(node, ast.Attribute):
            yield node.attr


def node_faults(node):
    if not isinstance(node, NODES) or isinstance(node, (ast.Div, ast.MatMult)):
        yield "a form that is not used"
    if isinstance(node, (ast.For, ast.While)) and node.orelse:
        yield "else behind a loop"
    if isinstance(node, ast.Try) and node.finalbody:
        yield "finally"
    if isinstance(node, (ast.FunctionDef, ast.ClassDef)) and node.decorator_list:
        yield "a decorator"
    if isinstance(node, ast.FunctionDef) and node.end_lineno - node.lineno >= 40:
        yield "a function of over 40 lines"
    if isinstance(node, ast.arguments) and (node.vararg or node.kwarg or node.kwonlyargs or node.posonlyargs):
        yield "other than plain parameters"
    if isinstance(node, ast.Assign) and len(node.targets) != 1:
        yield "several targets"
    if isinstance(node, ast.Constant) and isinstance(node.value, (float, complex, bytes)):
        yield "a value of another kind"
    if isinstance(node, ast.ListComp) and (len(node.generators) > 1 or len(node.generators[0].ifs) > 1):
        yield "a comprehension with more than one for and one if"
    if isinstance(node, ast.Compare):
        for op, right in zip(node.ops, node.comparators):
            if isinstance(op, (ast.Is, ast.IsNot)) and not isinstance(right, ast.Constant):
                yield "is beside other than None, True, False"


def name_faults(tree):
    for name in bound_names(tree):
        if name not in UNDERSCORED and not re.fullmatch(r"[A-Za-z][A-Za-z0-9_]*", name):
            yield f"the name {name}"
    for node in ast.walk(tree):
        if isinstance(node, ast.Name):
            if isinstance(node.ctx, ast.Load) and hasattr(builtins, node.id) and node.id not in OWN_NAMES:
                yield f"Python's own {node.id}"
            if isinstance(node.ctx, ast.Store) and hasattr(builtins, node.id):
                yield f"another meaning for {node.id}"
        elif isinstance(node, ast.arg) and hasattr(builtins, node.arg):
            yield f"another meaning for {node.arg}"


def method_faults(tree, own_methods):
    for node in ast.walk(tree):
        if isinstance(node, ast.Call) and isinstance(node.func, ast.Attribute):
            if node.func.attr not in METHODS and node.func.attr not in own_methods:
                yield f"the method {node.func.attr}"


def class_faults(tree):
    for node in ast.walk(tree):
        if not isinstance(node, ast.ClassDef):
            continue
        if node not in tree.body:
            yield "a class that stands not at the top"
        if len(node.bases) > 1 or node.keywords:
            yield "more than one base"
        methods = [part.name for part in node.body if isinstance(part, ast.FunctionDef)]
        others = [part for part in node.body if not isinstance(part, (ast.FunctionDef, ast.Pass))]
        if [part for part in others if not (isinstance(part, ast.Expr) and isinstance(part.value, ast.Constant))]:
            yield "a value in a class body"
        if len(methods) != len(set(methods)):
            yield "a method that stands twice"
        for name in set(methods) - UNDERSCORED - METHODS - {"add", "discard"}:
            if any(hasattr(kind, name) for kind in PLAIN_KINDS):
                yield f"a method called {name}"
        for name in values_set(node):
            if name in methods or any(hasattr(kind, name) for kind in PLAIN_KINDS):
                yield f"a value called {name}"


def values_set(tree):
    return {node.attr for node in ast.walk(tree) if isinstance(node, ast.Attribute) and isinstance(node.ctx, ast.Store)}


def local_faults(tree):
    taken = {alias.asname or alias.name for node in tree.body if isinstance(node, ast.ImportFrom)
             for alias in node.names}
    taken |= {node.name for node in tree.body if isinstance(node, ast.ClassDef)}
    for node in ast.walk(tree):
        name = node.arg if isinstance(node, ast.arg) else None
        if isinstance(node, ast.Name) and isinstance(node.ctx, ast.Store):
            name = node.id
        if name in taken:
            yield f"another meaning for {name}"


def is_walk(node):
    """A call of something that is to be walked where it stands."""
    if not isinstance(node, ast.Call):
        return False
    if isinstance(node.func, ast.Attribute):
        return node.func.attr in ("items", "keys", "values")
    return isinstance(node.func, ast.Name) and node.func.id in ("zip", "enumerate", "reversed", "range")


def walk_faults(tree):
    walked = []
    for node in ast.walk(tree):
        if isinstance(node, (ast.For, ast.comprehension)):
            walked.append(node.iter)
        if isinstance(node, ast.Call) and isinstance(node.func, ast.Name) and node.func.id in WALKERS:
            walked.extend(node.args)
    for node in ast.walk(tree):
        if is_walk(node) and node not in walked:
            yield f"kept and not walked: {ast.unparse(node)}"
        if isinstance(node, ast.Name) and node.id in ("set", "frozenset"):
            yield "a set"


def error_faults(tree):
    for node in ast.walk(tree):
        if isinstance(node, ast.ExceptHandler) and (not isinstance(node.type, ast.Name) or node.type.id in OWN_NAMES):
            yield "an error of Python's own is taken"
        if isinstance(node, ast.Raise) and not isinstance(node.exc, ast.Call):
            yield "an error that is not made on the spot"
        if isinstance(node, ast.FormattedValue) and (not isinstance(node.value, ast.Name) or node.format_spec):
            yield "other than a plain name in an f-string"


def top_faults(tree):
    names = []
    for k, node in enumerate(tree.body):
        if isinstance(node, ast.Expr):
            if k or not isinstance(node.value, ast.Constant):
                yield "something is done at the top"
        elif isinstance(node, ast.ImportFrom):
            if node.level or not node.module.startswith("reelhall.") or any(a.name == "*" for a in node.names):
                yield "an import of another form"
        elif isinstance(node, ast.Assign):
            names.append(ast.unparse(node.targets[0]))
        elif isinstance(node, (ast.FunctionDef, ast.ClassDef)):
            names.append(node.name)
        else:
            yield "another statement at the top"
    if len(names) != len(set(names)):
        yield "a name bound twice at the top"


class LanguageTest(unittest.TestCase):
    def setUp(self):
        self.texts = {p.name: p.read_text(encoding="utf-8") for p in files()}
        self.trees = {name: ast.parse(text) for name, text in self.texts.items()}

    def assert_no_faults(self, faults_of):
        faults = [(name, fault) for name, tree in self.trees.items() for fault in faults_of(tree)]
        self.assertEqual(faults, [])

    def test_the_files(self):
        self.assertIn("__init__.py", self.texts)
        for path in files():
            self.assertRegex(path.name, r"^(__init__|__main__|[a-z][a-z0-9_]*)\.py$")
            self.assertNotIn(path.stem, dir(builtins))

    def test_signs_words_and_sizes(self):
        for name, text in self.texts.items():
            self.assertRegex(text, r"\A[ -~\n]*\Z", name)
            self.assertIsNone(WORDS_NOWHERE.search(text), name)
            self.assertLessEqual(len(text.splitlines()), 400, name)
            self.assertLessEqual(max(map(len, text.splitlines())), 120, name)

    def test_forms(self):
        self.assert_no_faults(lambda tree: [fault for node in ast.walk(tree) for fault in node_faults(node)])

    def test_names(self):
        self.assert_no_faults(name_faults)

    def test_methods(self):
        own = {part.name for tree in self.trees.values() for node in ast.walk(tree) if isinstance(node, ast.ClassDef)
               for part in node.body if isinstance(part, ast.FunctionDef)}
        self.assert_no_faults(lambda tree: method_faults(tree, own))

    def test_classes(self):
        self.assert_no_faults(class_faults)
        methods = {part.name for tree in self.trees.values() for node in ast.walk(tree)
                   if isinstance(node, ast.ClassDef) for part in node.body if isinstance(part, ast.FunctionDef)}
        values = {name for tree in self.trees.values() for name in values_set(tree)}
        self.assertEqual(methods & values, set())

    def test_locals(self):
        self.assert_no_faults(local_faults)

    def test_walks_and_sets(self):
        # The rules leave a set some room; the package uses none at all.
        self.assert_no_faults(walk_faults)

    def test_errors(self):
        # The rules let some of Python's own errors be taken; the package takes its own alone.
        self.assert_no_faults(error_faults)

    def test_no_two_files_draw_from_one_another(self):
        draws = {name: {node.module.split(".")[1] + ".py" for node in tree.body if isinstance(node, ast.ImportFrom)}
                 for name, tree in self.trees.items()}
        while draws:
            free = [name for name in draws if not draws[name] & set(draws)]
            self.assertTrue(free, draws)
            for name in free:
                del draws[name]

    def test_tops(self):
        self.assert_no_faults(top_faults)

    def test_each_import_comes_from_the_file_that_defines_it(self):
        for name, tree in self.trees.items():
            for node in ast.walk(tree):
                if isinstance(node, ast.ImportFrom):
                    source = self.trees[node.module.split(".")[1] + ".py"]
                    defined = [ast.unparse(n.targets[0]) if isinstance(n, ast.Assign) else getattr(n, "name", None)
                               for n in source.body]
                    for alias in node.names:
                        self.assertIn(alias.name, defined, name)


if __name__ == "__main__":
    unittest.main()
