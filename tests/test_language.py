"""The package keeps to the part of Python that it may use, as far as a walk over its files can see."""

import ast
import builtins
import pathlib
import re
import unittest

ROOT = pathlib.Path(__file__).resolve().parent.parent / "flowkinds"
FILES = sorted(ROOT.glob("*.py"))

NODES = """Module FunctionDef arguments arg ClassDef Return Assign AugAssign For While If Raise Try ExceptHandler
ImportFrom alias Expr Pass Break Continue BoolOp And Or BinOp Add Sub Mult FloorDiv Mod Pow LShift RShift BitOr BitXor
BitAnd UnaryOp Not USub UAdd Invert Lambda IfExp Dict Set ListComp comprehension Compare Eq NotEq Lt LtE Gt GtE Is
IsNot In NotIn Call keyword FormattedValue JoinedStr Constant Attribute Subscript Slice Name List Tuple Load
Store""".split()

OWN_NAMES = """len range enumerate zip min max sum abs sorted reversed int str bool list tuple dict set frozenset
isinstance ord repr any all divmod Exception ValueError TypeError KeyError IndexError LookupError ZeroDivisionError
ArithmeticError OverflowError RuntimeError NotImplementedError AttributeError StopIteration""".split()

METHODS = """append clear copy count endswith extend find get index insert isalnum isalpha isdigit islower isspace
isupper items join keys ljust lower lstrip partition pop remove replace reverse rfind rjust rpartition rsplit rstrip
setdefault split splitlines startswith strip update upper values zfill bit_length""".split()

NOT_VALUES = """items keys values pop update append clear extend insert remove reverse setdefault sort args encode
format""".split()

NOT_WORDS = """type typing typing_extensions enum Enum IntEnum StrEnum Flag IntFlag Generic Protocol ABC ABCMeta
namedtuple NamedTuple TypedDict TYPE_CHECKING abstractmethod""".split()

NOT_NAMES = """register mro elements open input version_info with_traceback add_note attrgetter breakpoint builtins
compile copyright credits delattr dir eval exec exit gc getattr globals hasattr help id importlib license locals
methodcaller os quit setattr super type vars sys""".split()

# What is walked where it stands, and what may walk it.
WALKED = "zip enumerate reversed range".split()
WALKED_METHODS = "items keys values".split()
WALKERS = "list tuple dict sorted sum any all enumerate zip min max".split()

CHANGES = "append clear extend insert pop remove reverse setdefault update".split()

TWO_UNDERSCORES = ["__init__", "__eq__", "__repr__", "__str__", "__len__"]


def sources():
    return [(path.name, path.read_text(encoding="utf-8")) for path in FILES]


def walked():
    for name, text in sources():
        for node in ast.walk(ast.parse(text)):
            yield f"{name}:{getattr(node, 'lineno', 0)}", node


# Each node with the one that it stands in.
def walked_within():
    for at, outer in walked():
        for node in ast.iter_child_nodes(outer):
            yield at, node, outer


def is_call_of(node, names):
    return isinstance(node, ast.Call) and isinstance(node.func, ast.Name) and node.func.id in names


def is_method_call_of(node, names):
    return isinstance(node, ast.Call) and isinstance(node.func, ast.Attribute) and node.func.attr in names


def bound_names(node):
    if isinstance(node, ast.arg):
        return [node.arg]
    if isinstance(node, ast.Name) and isinstance(node.ctx, ast.Store):
        return [node.id]
    if isinstance(node, (ast.FunctionDef, ast.ClassDef)):
        return [node.name]
    return []


def is_plain(node):
    if isinstance(node, (ast.List, ast.Tuple)):
        return all(is_plain(part) for part in node.elts)
    if isinstance(node, ast.Dict):
        return all(is_plain(part) for part in node.keys + node.values)
    return isinstance(node, (ast.Constant, ast.Name))


class LanguageTest(unittest.TestCase):
    def test_the_folder_holds_python_files_alone(self):
        for path in ROOT.iterdir():
            if path.name != "__pycache__":
                self.assertRegex(path.name, r"^[a-z][a-z0-9_]*\.py$|^__init__\.py$|^__main__\.py$")

    def test_signs_and_sizes(self):
        for name, text in sources():
            self.assertIsNone(re.search(r"[^\n -~]", text), name)
            lines = text.splitlines()
            self.assertLessEqual(len(lines), 400, name)
            self.assertLessEqual(max(len(line) for line in lines), 120, name)
            for word in NOT_WORDS:
                self.assertIsNone(re.search(rf"(?<!\w){word}(?!\w)", text), f"{name} {word}")
            self.assertIsNone(re.search("dataclass|overload|contextmanager", text), name)

    def test_statements_and_expressions(self):
        for at, node in walked():
            with self.subTest(at):
                self.assertIn(type(node).__name__, NODES)
                if isinstance(node, ast.Assign):
                    self.assertEqual(len(node.targets), 1)
                    self.assertNotIsInstance(node.targets[0], (ast.Tuple, ast.List))
                if isinstance(node, (ast.For, ast.While)):
                    self.assertEqual(node.orelse, [])
                if isinstance(node, ast.Try):
                    self.assertEqual(node.finalbody, [])
                    self.assertTrue(all(handler.type for handler in node.handlers))
                if isinstance(node, ast.ListComp):
                    self.assertEqual(len(node.generators), 1)
                    self.assertLessEqual(len(node.generators[0].ifs), 1)
                if isinstance(node, ast.Constant):
                    self.assertNotIsInstance(node.value, (float, bytes, complex))
                if isinstance(node, ast.Constant) and isinstance(node.value, str):
                    self.assertNotIn("%", node.value)
                if isinstance(node, ast.FormattedValue):
                    self.assertIsInstance(node.value, ast.Name)
                    self.assertIsNone(node.format_spec)
                if isinstance(node, ast.Compare) and any(isinstance(one, (ast.Is, ast.IsNot)) for one in node.ops):
                    self.assertIn(node.comparators[0].value, (None, True, False))

    def test_functions_and_classes(self):
        for at, node in walked():
            with self.subTest(at):
                if isinstance(node, (ast.FunctionDef, ast.ClassDef)):
                    self.assertEqual(node.decorator_list, [])
                if isinstance(node, ast.FunctionDef):
                    self.assertLessEqual(node.end_lineno - node.lineno + 1, 40)
                    used = node.args
                    self.assertFalse(used.vararg or used.kwarg or used.kwonlyargs or used.posonlyargs)
                if isinstance(node, ast.ClassDef):
                    self.assertLessEqual(len(node.bases), 1)
                    self.assertTrue(all(isinstance(one, (ast.FunctionDef, ast.Pass)) for one in node.body))

    def test_the_top_of_each_file(self):
        for name, text in sources():
            names = []
            for number, node in enumerate(ast.parse(text).body):
                with self.subTest(f"{name}:{node.lineno}"):
                    if isinstance(node, ast.Assign):
                        names.append(node.targets[0].id)
                        self.assertTrue(is_plain(node.value))
                    elif isinstance(node, ast.ImportFrom):
                        self.assertEqual(node.level, 0)
                        self.assertTrue(node.module.startswith("flowkinds."))
                        names += [one.name for one in node.names]
                    elif isinstance(node, ast.Expr):
                        self.assertEqual(number, 0)
                    else:
                        self.assertIsInstance(node, (ast.FunctionDef, ast.ClassDef))
                        names.append(node.name)
            self.assertEqual(len(names), len(set(names)), name)

    def test_names(self):
        for name, text in sources():
            tree = ast.parse(text)
            taken = [one.name for one in tree.body if isinstance(one, ast.ClassDef)]
            for one in tree.body:
                if isinstance(one, ast.ImportFrom):
                    taken += [part.name for part in one.names]
            methods = [one for node in tree.body if isinstance(node, ast.ClassDef) for one in node.body]
            for node in ast.walk(tree):
                for bound in bound_names(node):
                    with self.subTest(f"{name}:{node.lineno}", name=bound):
                        if bound not in TWO_UNDERSCORES:
                            self.assertRegex(bound, r"^[A-Za-z][A-Za-z0-9_]*$")
                        self.assertNotIn(bound, NOT_NAMES)
                        if node not in methods:
                            self.assertFalse(hasattr(builtins, bound))
                        if not isinstance(node, ast.ClassDef):
                            self.assertNotIn(bound, taken)

    def test_pythons_own_names(self):
        for at, node in walked():
            if isinstance(node, ast.Name) and hasattr(builtins, node.id):
                self.assertIn(node.id, OWN_NAMES, at)

    def test_methods_and_values(self):
        methods, values = set(), set()
        for at, node in walked():
            if isinstance(node, ast.ClassDef):
                methods.update(one.name for one in node.body if isinstance(one, ast.FunctionDef))
            if isinstance(node, ast.Attribute) and isinstance(node.ctx, ast.Store):
                values.add(node.attr)
        self.assertEqual(methods & values, set())
        self.assertEqual(values & set(NOT_VALUES), set())
        known = methods | values | set(METHODS) | {"__init__"}
        for at, node in walked():
            if isinstance(node, ast.Attribute):
                self.assertIn(node.attr, known, at)
                self.assertNotIn(node.attr, ["format", "format_map", "mro"], at)

    def test_where_classes_stand(self):
        classes = [node.name for _, node in walked() if isinstance(node, ast.ClassDef)]
        self.assertEqual(len(classes), len(set(classes)))
        for at, node, outer in walked_within():
            if isinstance(node, ast.Name) and node.id in classes:
                called = isinstance(outer, ast.Call) and outer.func is node
                based = isinstance(outer, ast.ClassDef)
                begun = isinstance(outer, ast.Attribute) and outer.attr == "__init__"
                asked = is_call_of(outer, ["isinstance"]) or isinstance(outer, (ast.ExceptHandler, ast.Tuple))
                self.assertTrue(called or based or begun or asked, at)

    def test_what_is_made_by_init(self):
        for at, node in walked():
            if isinstance(node, ast.FunctionDef) and node.name == "__init__":
                self.assertFalse(any(isinstance(one, ast.Return) for one in ast.walk(node)), at)

    def test_lists_and_dicts_of_the_top_are_only_read(self):
        tops = []
        for _, text in sources():
            for node in ast.parse(text).body:
                if isinstance(node, ast.Assign) and isinstance(node.value, (ast.List, ast.Dict)):
                    tops.append(node.targets[0].id)
                    inner = [one for one in ast.walk(node.value) if one is not node.value]
                    self.assertFalse(any(isinstance(one, (ast.List, ast.Dict)) for one in inner), tops[-1])
        for at, node, outer in walked_within():
            if isinstance(node, ast.Name) and node.id in tops and isinstance(node.ctx, ast.Load):
                indexed = isinstance(outer, ast.Subscript) and isinstance(outer.ctx, ast.Load) and outer.value is node
                walked_on = isinstance(outer, (ast.For, ast.comprehension)) and outer.iter is node
                copied = is_call_of(outer, ["len", "list", "dict", "sorted", "tuple"])
                self.assertTrue(indexed or walked_on or copied or isinstance(outer, ast.Compare), at)

    def test_pythons_own_names_are_called_where_they_stand(self):
        for at, node, outer in walked_within():
            if isinstance(node, ast.Name) and hasattr(builtins, node.id):
                called = isinstance(outer, ast.Call) and outer.func is node
                asked = is_call_of(outer, ["isinstance"]) or isinstance(outer, (ast.ExceptHandler, ast.Tuple))
                self.assertTrue(called or asked or isinstance(outer, (ast.ClassDef, ast.keyword)), at)

    def test_what_is_walked_at_once(self):
        for at, node, outer in walked_within():
            if is_call_of(node, WALKED) or is_method_call_of(node, WALKED_METHODS):
                in_loop = isinstance(outer, (ast.For, ast.comprehension)) and outer.iter is node
                in_call = is_call_of(outer, WALKERS) and outer.args[0] is node
                self.assertTrue(in_loop or in_call or is_method_call_of(outer, ["join"]), at)

    def test_what_a_loop_walks_is_not_changed_in_it(self):
        for at, node in walked():
            if isinstance(node, ast.For):
                ones = [node.iter] + [one for one in ast.walk(node.iter) if isinstance(one, (ast.Name, ast.Attribute))]
                around = [ast.unparse(one) for one in ones]
                for inner in [one for part in node.body for one in ast.walk(part)]:
                    if isinstance(inner, ast.Attribute) and inner.attr in CHANGES:
                        self.assertNotIn(ast.unparse(inner.value), around, at)
                    if isinstance(inner, ast.Subscript) and isinstance(inner.ctx, ast.Store):
                        self.assertNotIn(ast.unparse(inner.value), around, at)

    def test_where_sets_stand(self):
        for at, node, outer in walked_within():
            if isinstance(node, ast.Set) or is_call_of(node, ["set", "frozenset"]):
                compared = isinstance(outer, ast.Compare)
                counted = is_call_of(outer, ["sorted", "len"]) and not outer.keywords
                self.assertTrue(compared or counted or isinstance(outer, ast.BinOp), at)

    def test_no_two_files_draw_from_one_another(self):
        drawn = {}
        for path in FILES:
            tree = ast.parse(path.read_text(encoding="utf-8"))
            drawn[path.stem] = [one.module.split(".")[1] for one in tree.body if isinstance(one, ast.ImportFrom)]
        settled = set()
        while True:
            ready = [name for name in drawn if name not in settled and settled.issuperset(drawn[name])]
            if not ready:
                break
            settled.update(ready)
        self.assertEqual(settled, set(drawn))


if __name__ == "__main__":
    unittest.main()
