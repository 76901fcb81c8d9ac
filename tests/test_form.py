"""Whether the package keeps to the part of Python it is written in, as far as that can be seen by its syntax."""

import ast
import builtins
import pathlib
import re
import unittest

PACKAGE = pathlib.Path(__file__).resolve().parent.parent / "wholefract"

OWN_NAMES = set("""len range enumerate zip min max sum abs sorted reversed int str bool list tuple dict set frozenset
    isinstance ord repr any all divmod Exception ValueError TypeError KeyError IndexError LookupError
    ZeroDivisionError ArithmeticError OverflowError RuntimeError NotImplementedError AttributeError
    StopIteration""".split())
METHODS = set("""append clear copy count endswith extend find get index insert isalnum isalpha isdigit islower isspace
    isupper items join keys ljust lower lstrip partition pop remove replace reverse rfind rjust rpartition rsplit
    rstrip setdefault split splitlines startswith strip update upper values zfill bit_length""".split())
UNDERSCORED = {"__init__", "__eq__", "__repr__", "__str__", "__len__"}
WORDS = re.compile(r"\b(type|typing|typing_extensions|enum|Enum|IntEnum|StrEnum|Flag|IntFlag|Generic|Protocol|ABC|"
                   r"ABCMeta|namedtuple|NamedTuple|TypedDict|TYPE_CHECKING|abstractmethod)\b|"
                   r"dataclass|overload|contextmanager")
OWN_VALUES = set("count index title find get join lower upper split strip copy add".split())
PLAIN_ERRORS = {"KeyError", "ZeroDivisionError", "StopIteration"}
UNUSED = set("""register mro elements open input version_info with_traceback add_note format format_map
    attrgetter breakpoint builtins compile copyright credits delattr dir eval exec exit gc getattr globals hasattr help
    id importlib license locals methodcaller os quit setattr super type vars sys""".split())
WALKERS = ("list", "tuple", "dict", "sorted", "sum", "any", "all", "enumerate", "zip")
NODES = set("""Module Expr Constant Name Load Store Attribute Subscript Slice Tuple List Dict Set Call keyword
    ImportFrom alias FunctionDef Lambda arguments arg ClassDef Return Assign AugAssign If While For Break Continue Pass
    Raise Try ExceptHandler BoolOp And Or UnaryOp Not USub UAdd Invert BinOp Add Sub Mult FloorDiv Mod Pow LShift RShift
    BitOr BitXor BitAnd Compare Eq NotEq Lt LtE Gt GtE Is IsNot In NotIn IfExp ListComp comprehension JoinedStr
    FormattedValue""".split())


def files():
    return sorted(path for path in PACKAGE.rglob("*") if "__pycache__" not in path.parts)


def modules():
    return [(path.name, path.read_text("utf-8"), ast.parse(path.read_text("utf-8"))) for path in files()]


def all_nodes():
    return [(f"{name}:{getattr(node, 'lineno', 0)}", node) for name, _, tree in modules() for node in ast.walk(tree)]


def bound_names(node):
    if isinstance(node, ast.Name) and isinstance(node.ctx, ast.Store):
        return [node.id]
    if isinstance(node, (ast.FunctionDef, ast.ClassDef)):
        return [node.name]
    if isinstance(node, ast.arg):
        return [node.arg]
    return []


def drawn_from(tree):
    return [node.module.partition(".")[2] for node in ast.walk(tree) if isinstance(node, ast.ImportFrom)]


def is_walk(node):
    if not isinstance(node, ast.Call):
        return False
    if isinstance(node.func, ast.Name):
        return node.func.id in ("zip", "enumerate", "reversed", "range")
    return isinstance(node.func, ast.Attribute) and node.func.attr in ("items", "keys", "values")


def walked_in(node):
    """The parts of a node where something may be walked on the spot."""
    if isinstance(node, (ast.For, ast.comprehension)):
        return [node.iter]
    if isinstance(node, ast.Call) and isinstance(node.func, ast.Name) and node.func.id in WALKERS:
        return node.args if node.func.id == "zip" else node.args[:1]
    if isinstance(node, ast.Call) and isinstance(node.func, ast.Name) and node.func.id in ("min", "max"):
        return node.args if len(node.args) == 1 else []
    if isinstance(node, ast.Call) and isinstance(node.func, ast.Attribute) and node.func.attr == "join":
        return node.args if isinstance(node.func.value, ast.Constant) else []
    return []


def classes():
    return [node for _, node in all_nodes() if isinstance(node, ast.ClassDef)]


def values_given(kind):
    return {node.attr for node in ast.walk(kind) if isinstance(node, ast.Attribute) and isinstance(node.ctx, ast.Store)}


def is_plain(node, above):
    """A plain value, or a list, tuple or dict of such and of functions that stand above."""
    if isinstance(node, (ast.Constant, ast.Name)):
        return isinstance(node, ast.Constant) or node.id in above
    if isinstance(node, (ast.List, ast.Tuple)):
        return all(is_plain(part, above) for part in node.elts)
    if isinstance(node, ast.Dict):
        return all(is_plain(part, above) for part in node.keys + node.values)
    return isinstance(node, ast.UnaryOp) and isinstance(node.operand, ast.Constant)


def only_read(tree, name):
    """Whether a list or dict is nothing but read: by an index, get and its like, in, or a walk."""
    allowed = []
    for node in ast.walk(tree):
        if isinstance(node, ast.Subscript) and isinstance(node.ctx, ast.Load):
            allowed.append(node.value)
        if isinstance(node, ast.Call) and isinstance(node.func, ast.Attribute):
            if node.func.attr in ("get", "items", "keys", "values", "index", "count"):
                allowed.append(node.func.value)
        if isinstance(node, ast.Call) and isinstance(node.func, ast.Name) and node.func.id in OWN_NAMES:
            allowed.extend(node.args)
        if isinstance(node, ast.Compare):
            allowed.extend(node.comparators)
        if isinstance(node, (ast.For, ast.comprehension)):
            allowed.append(node.iter)
    read = [node for node in ast.walk(tree) if isinstance(node, ast.Name) and node.id == name]
    return all(node in allowed for node in read if isinstance(node.ctx, ast.Load))


class Form(unittest.TestCase):
    def test_files(self):
        self.assertIn("__init__.py", [path.name for path in files()])
        for path in files():
            self.assertRegex(path.name, r"\A(__init__|[a-z][a-z0-9_]*)\.py\Z")
            self.assertNotRegex(path.name, r"\A(tests?|testing|test_.*|site|conftest)\.py\Z")
            self.assertNotIn(path.stem, dir(builtins))

    def test_signs_and_sizes(self):
        for name, text, tree in modules():
            self.assertRegex(text, r"\A[ -~\n]*\Z", name)
            self.assertIsNone(WORDS.search(text), name)
            self.assertLessEqual(len(text.splitlines()), 400, name)
            self.assertLessEqual(max(map(len, text.splitlines())), 120, name)
            for node in ast.walk(tree):
                if isinstance(node, ast.FunctionDef):
                    self.assertLessEqual(node.end_lineno - node.lineno + 1, 40, (name, node.name))

    def test_nodes(self):
        for where, node in all_nodes():
            self.assertIn(node.__class__.__name__, NODES, where)

    def test_imports(self):
        defined = {name[:-3]: {bound for node in tree.body for part in ast.walk(node) for bound in bound_names(part)}
                   for name, _, tree in modules()}
        for where, node in all_nodes():
            if isinstance(node, ast.ImportFrom):
                package, _, module = node.module.partition(".")
                self.assertEqual((package, node.level), ("wholefract", 0), where)
                for alias in node.names:
                    self.assertIn(alias.name, defined[module], where)

    def test_no_circle_of_files(self):
        drawn = {name[:-3]: drawn_from(tree) for name, _, tree in modules()}
        while drawn:
            ends = [name for name in drawn if not set(drawn[name]) & set(drawn)]
            self.assertNotEqual(ends, [], drawn)
            drawn = {name: drawn[name] for name in drawn if name not in ends}

    def test_no_local_is_called_like_an_import_or_class(self):
        for name, _, tree in modules():
            taken = {alias.name for node in tree.body if isinstance(node, ast.ImportFrom) for alias in node.names}
            taken |= {node.name for node in tree.body if isinstance(node, ast.ClassDef)}
            for function in ast.walk(tree):
                if isinstance(function, ast.FunctionDef):
                    local = {bound for part in function.body + [function.args] for node in ast.walk(part)
                             for bound in bound_names(node)}
                    self.assertEqual(local & taken, set(), (name, function.name))

    def test_walked_on_the_spot(self):
        for name, _, tree in modules():
            allowed = [part for node in ast.walk(tree) for part in walked_in(node)]
            for node in ast.walk(tree):
                if is_walk(node):
                    self.assertIn(node, allowed, (name, node.lineno))

    def test_names(self):
        for where, node in all_nodes():
            for name in bound_names(node):
                if name not in UNDERSCORED:
                    self.assertRegex(name, r"\A[A-Za-z][A-Za-z0-9_]*\Z", where)
            if isinstance(node, ast.Name):
                self.assertNotIn(node.id, UNUSED, where)
                self.assertTrue(node.id in OWN_NAMES or node.id not in dir(builtins), (where, node.id))
            if isinstance(node, ast.arg) or isinstance(node, ast.Name) and isinstance(node.ctx, ast.Store):
                self.assertNotIn(bound_names(node)[0], dir(builtins), where)

    def test_attributes(self):
        own = {name for _, node in all_nodes() if isinstance(node, ast.ClassDef)
               for part in ast.walk(node) for name in bound_names(part)}
        own |= {node.attr for _, node in all_nodes()
                if isinstance(node, ast.Attribute) and isinstance(node.ctx, ast.Store)}
        for where, node in all_nodes():
            if isinstance(node, ast.Attribute):
                self.assertIn(node.attr, METHODS | UNDERSCORED | own, where)
                self.assertNotIn(node.attr, UNUSED, where)

    def test_functions_and_classes(self):
        for where, node in all_nodes():
            if isinstance(node, (ast.FunctionDef, ast.ClassDef)):
                self.assertEqual(node.decorator_list, [], where)
            if isinstance(node, ast.arguments):
                self.assertEqual((node.vararg, node.kwarg, node.kwonlyargs, node.posonlyargs), (None, None, [], []))
            if isinstance(node, ast.ClassDef):
                self.assertLessEqual(len(node.bases), 1, where)
                for part in node.body:
                    self.assertIsInstance(part, (ast.FunctionDef, ast.Pass), where)

    def test_statements(self):
        for where, node in all_nodes():
            if isinstance(node, (ast.For, ast.While)):
                self.assertEqual(node.orelse, [], where)
            if isinstance(node, ast.Try):
                self.assertEqual(node.finalbody, [], where)
            if isinstance(node, ast.Assign):
                self.assertEqual(len(node.targets), 1, where)
            if isinstance(node, ast.ExceptHandler):
                self.assertIsNotNone(node.type, where)
                taken = {part.id for part in ast.walk(node.type) if isinstance(part, ast.Name)}
                self.assertEqual(taken & {"Exception", "TypeError"}, set(), where)
            if isinstance(node, ast.ListComp):
                self.assertEqual(len(node.generators), 1, where)
                self.assertLessEqual(len(node.generators[0].ifs), 1, where)

    def test_values(self):
        for where, node in all_nodes():
            if isinstance(node, ast.Constant):
                self.assertIn(node.value.__class__, (int, str, bool, None.__class__), where)
                self.assertFalse(isinstance(node.value, str) and "%" in node.value, where)
            if isinstance(node, ast.BinOp) and isinstance(node.op, ast.Pow):
                self.assertIsInstance(node.right, ast.Constant, where)
                self.assertIn(node.right.value, range(65), where)
            if isinstance(node, ast.FormattedValue):
                self.assertIsInstance(node.value, ast.Name, where)
                self.assertIsNone(node.format_spec, where)
            if isinstance(node, ast.Compare) and any(isinstance(op, (ast.Is, ast.IsNot)) for op in node.ops):
                beside = [part.value for part in [node.left] + node.comparators if isinstance(part, ast.Constant)]
                self.assertTrue(any(value in (None, True, False) for value in beside), where)

    def test_the_top_of_files(self):
        for name, _, tree in modules():
            above, functions = [], []
            for place, node in enumerate(tree.body):
                if isinstance(node, ast.Assign):
                    self.assertTrue(is_plain(node.value, functions), (name, node.lineno))
                    parts = [part for part in ast.walk(node.value) if isinstance(part, (ast.List, ast.Dict))]
                    self.assertIn(parts, ([], [node.value]), (name, node.lineno))
                    if parts:
                        self.assertTrue(only_read(tree, node.targets[0].id), (name, node.lineno))
                    self.assertNotIn(node.targets[0].id, above)
                    above.append(node.targets[0].id)
                elif isinstance(node, (ast.FunctionDef, ast.ClassDef)):
                    self.assertNotIn(node.name, above)
                    above.append(node.name)
                    functions += [node.name] * isinstance(node, ast.FunctionDef)
                else:
                    self.assertIsInstance(node, ast.Expr if place == 0 else ast.ImportFrom, (name, node.lineno))

    def test_methods_and_values(self):
        methods = [part.name for node in classes() for part in node.body if isinstance(part, ast.FunctionDef)]
        values = set().union(*map(values_given, classes()))
        own = {name for kind in (str, int, list, dict, set, bytes, tuple) for name in dir(kind)}
        self.assertEqual(set(methods) & values, set())
        self.assertEqual((set(methods) - UNDERSCORED) & (own - METHODS - {"add", "discard"}), set())
        self.assertEqual(values & (own - OWN_VALUES), set())
        for node in classes():
            names = [part.name for part in node.body if isinstance(part, ast.FunctionDef)]
            self.assertEqual(len(set(names)), len(names), node.name)

    def test_values_are_given_through_a_local(self):
        for name, _, tree in modules():
            top = {bound for node in tree.body for bound in bound_names(node)}
            for node in ast.walk(tree):
                if isinstance(node, (ast.Attribute, ast.Subscript)) and isinstance(node.ctx, ast.Store):
                    if isinstance(node.value, ast.Name):
                        self.assertNotIn(node.value.id, top, (name, node.lineno))

    def test_nothing_is_given_back_when_made(self):
        for node in classes():
            for part in node.body:
                if isinstance(part, ast.FunctionDef) and part.name == "__init__":
                    self.assertFalse(any(isinstance(inner, ast.Return) for inner in ast.walk(part)), node.name)

    def test_errors_that_are_taken_and_raised(self):
        own = {node.name for node in classes()}
        for where, node in all_nodes():
            if isinstance(node, ast.ExceptHandler):
                self.assertIsInstance(node.type, ast.Name, where)
                self.assertIn(node.type.id, own | PLAIN_ERRORS, where)
            if isinstance(node, ast.Raise):
                self.assertIsInstance(node.exc, ast.Call, where)
                self.assertIn(node.exc.func.id, own, where)

    def test_sets_are_not_used(self):
        for where, node in all_nodes():
            self.assertNotIsInstance(node, ast.Set, where)
            self.assertFalse(isinstance(node, ast.Name) and node.id in ("set", "frozenset"), where)
