"""The form of the package's files: those rules of its language that can be read off the written rows."""

import ast
import builtins
import re
import unittest
import warnings
from pathlib import Path

TOP = Path(__file__).resolve().parent.parent
PACKAGE = TOP / "lanescribe"

BUILT_IN = (
    "len range enumerate zip min max sum abs sorted reversed int str bool bytes list tuple dict set frozenset "
    "isinstance ord repr any all divmod Exception ValueError TypeError KeyError IndexError LookupError "
    "ZeroDivisionError ArithmeticError OverflowError RuntimeError NotImplementedError AttributeError StopIteration"
).split()
METHODS = (
    "append clear copy count endswith extend find get index insert isalnum isalpha isdigit islower isspace isupper "
    "items join keys ljust lower lstrip partition pop remove replace reverse rfind rjust rpartition rsplit rstrip "
    "setdefault split splitlines startswith strip update upper values zfill bit_length isascii removeprefix sort add "
    "discard"
).split()
WORDS_NOWHERE = re.compile(
    r"\b(type|typing|typing_extensions|enum|Enum|IntEnum|StrEnum|Flag|IntFlag|Generic|Protocol|ABC|ABCMeta|namedtuple"
    r"|NamedTuple|TypedDict|TYPE_CHECKING|abstractmethod)\b|dataclass|overload|contextmanager"
)
# Values of objects may not bear these names, nor those of methods of Python's own but for VALUES_TOO.
INTERFACE_METHODS = (
    "lowest cells place_of need claim fill give throw take look pending event resize counts pages_now twin more place "
    "back note table dropped kind lane tick tally halt write sieve stop go do undo redo whole kinds lanes now test_of "
    "tallies stopped halted_by looker order done say"
).split()
VALUES_TOO = "count index title find get join lower upper split strip copy add".split()
TWO_UNDERSCORES = ("__init__", "__eq__", "__repr__", "__str__", "__len__")
NODES_NOWHERE = (
    ast.With, ast.Match, ast.Global, ast.Nonlocal, ast.Yield, ast.YieldFrom, ast.AsyncFunctionDef, ast.GeneratorExp,
    ast.NamedExpr, ast.Div, ast.MatMult, ast.Import,
)

STATEMENTS = (
    ast.Assign, ast.AugAssign, ast.If, ast.While, ast.For, ast.Return, ast.Break, ast.Continue, ast.Pass, ast.Raise,
    ast.Try, ast.Expr, ast.Assert, ast.Delete, ast.FunctionDef, ast.ClassDef, ast.ImportFrom,
)


def files():
    return sorted(PACKAGE.glob("*.py"))


def tree_of(path):
    return ast.parse(path.read_text(), str(path))


def nodes(*kinds):
    """All nodes of some kinds in the package, each with the place where it stands."""
    for path in files():
        for node in ast.walk(tree_of(path)):
            if isinstance(node, kinds):
                yield f"{path.name}:{getattr(node, 'lineno', 0)}", node


def tops(path):
    """The names that a file's top defines itself."""
    found = []
    for row in tree_of(path).body:
        if isinstance(row, (ast.FunctionDef, ast.ClassDef)):
            found.append(row.name)
        elif isinstance(row, ast.Assign):
            found.extend(target.id for target in row.targets)
    return found


class Files(unittest.TestCase):
    def test_nothing_else_lies_in_the_package(self):
        for path in PACKAGE.iterdir():
            if path.name != "__pycache__":
                self.assertRegex(path.name, r"\A[a-z_][a-z0-9_]*\.py\Z")

    def test_signs_and_sizes(self):
        for path in files():
            text = path.read_text()
            self.assertRegex(text, r"\A[\n -~]*\Z", path.name)
            self.assertLessEqual(text.count("\n"), 400, path.name)
            for row in text.split("\n"):
                self.assertLessEqual(len(row), 120, f"{path.name}: {row}")
        for place, node in nodes(ast.FunctionDef):
            self.assertLessEqual(node.end_lineno - node.lineno + 1, 40, place)

    def test_no_row_of_which_python_warns(self):
        with warnings.catch_warnings():
            warnings.simplefilter("error")
            for path in files():
                compile(path.read_text(), str(path), "exec")

    def test_words_that_stand_nowhere(self):
        for path in files():
            self.assertIsNone(WORDS_NOWHERE.search(path.read_text()), path.name)

    def test_names_of_a_top_are_bound_once(self):
        for path in files():
            drawn = [name.name for row in tree_of(path).body if isinstance(row, ast.ImportFrom) for name in row.names]
            names = tops(path) + drawn
            self.assertEqual(len(names), len(set(names)), path.name)


class Imports(unittest.TestCase):
    def test_from_the_file_that_defines_the_name(self):
        for place, node in nodes(ast.ImportFrom):
            self.assertEqual(node.level, 0, place)
            self.assertRegex(node.module, r"\Alanescribe\.[a-z_]+\Z", place)
            defined = tops(TOP / (node.module.replace(".", "/") + ".py"))
            for name in node.names:
                self.assertIn(name.name, defined, place)

    def test_no_two_files_draw_from_one_another(self):
        drawn = {
            path.stem: {row.module.split(".")[1] for row in tree_of(path).body if isinstance(row, ast.ImportFrom)}
            for path in files()
        }
        self.assertEqual(drawn["__init__"], set())
        while drawn:
            free = [name for name, needs in drawn.items() if not needs & set(drawn)]
            self.assertTrue(free, drawn)
            for name in free:
                del drawn[name]


class Rows(unittest.TestCase):
    def test_nodes_that_stand_nowhere(self):
        self.assertEqual([place for place, node in nodes(*NODES_NOWHERE)], [])

    def test_statements(self):
        for place, node in nodes(ast.stmt):
            self.assertIsInstance(node, STATEMENTS, place)
            if isinstance(node, (ast.For, ast.While)):
                self.assertEqual(node.orelse, [], place)
            if isinstance(node, ast.Expr):
                words = isinstance(node.value, ast.Constant) and isinstance(node.value.value, str)
                self.assertTrue(words or isinstance(node.value, ast.Call), place)

    def test_errors_are_made_on_the_spot_and_taken_by_name(self):
        own = {node.name for place, node in nodes(ast.ClassDef) if node.bases}
        for place, node in nodes(ast.Raise):
            self.assertIsInstance(node.exc, ast.Call, place)
            self.assertIn(getattr(node.exc.func, "id", None), own, place)
        for place, node in nodes(ast.ExceptHandler):
            for name in getattr(node.type, "elts", [node.type]):
                self.assertIn(getattr(name, "id", None), own, place)

    def test_a_top_holds_plain_values_and_own_defs(self):
        for path in files():
            for row in tree_of(path).body:
                if isinstance(row, ast.Assign):
                    for node in ast.walk(row.value):
                        self.assertNotIsInstance(node, (ast.Call, ast.Lambda, ast.Set, ast.ListComp), path.name)
                        if isinstance(node, ast.Name):
                            self.assertIn(node.id, tops(path), path.name)
                    inner = row.value.values if isinstance(row.value, ast.Dict) else getattr(row.value, "elts", [])
                    for node in inner:
                        self.assertNotIsInstance(node, (ast.List, ast.Dict), path.name)

    def test_plain_values(self):
        for place, node in nodes(ast.Constant):
            self.assertNotIsInstance(node.value, (float, complex), place)
            if isinstance(node.value, str):
                self.assertNotIn("%", node.value, place)

    def test_plain_parameters(self):
        for place, node in nodes(ast.FunctionDef, ast.ClassDef):
            self.assertEqual(node.decorator_list, [], place)
        for place, node in nodes(ast.arguments):
            self.assertEqual((node.vararg, node.kwarg, node.posonlyargs), (None, None, []), place)

    def test_names(self):
        own = {name for path in files() for name in tops(path)}
        for place, node in nodes(ast.Name, ast.arg, ast.FunctionDef, ast.ClassDef):
            name = getattr(node, "id", None) or getattr(node, "arg", None) or getattr(node, "name", None)
            if name in TWO_UNDERSCORES:
                continue
            self.assertFalse(name.startswith("_"), place)
            if hasattr(builtins, name) and name not in own:
                self.assertIn(name, BUILT_IN, place)
                self.assertIsInstance(getattr(node, "ctx", None), ast.Load, place)

    def test_values_and_methods(self):
        own = set(METHODS) | set(TWO_UNDERSCORES)
        own |= {node.name for place, node in nodes(ast.FunctionDef)}
        own |= {node.attr for place, node in nodes(ast.Attribute) if isinstance(node.ctx, ast.Store)}
        for place, node in nodes(ast.Attribute):
            self.assertIn(node.attr, own, place)

    def test_classes_hold_methods_alone(self):
        for place, node in nodes(ast.ClassDef):
            for number, row in enumerate(node.body):
                words = isinstance(row, ast.Expr) and isinstance(row.value, ast.Constant) and number == 0
                self.assertTrue(words or isinstance(row, ast.FunctionDef), place)
            names = [row.name for row in node.body if isinstance(row, ast.FunctionDef)]
            self.assertEqual(len(names), len(set(names)), place)

    def test_no_name_is_a_method_and_a_value(self):
        methods = {row.name for place, node in nodes(ast.ClassDef) for row in node.body if hasattr(row, "name")}
        values = {node.attr for place, node in nodes(ast.Attribute) if isinstance(node.ctx, ast.Store)}
        self.assertEqual(values & (methods | set(INTERFACE_METHODS)), set())
        own = {name for thing in ("", 0, [], {}, set(), b"", ()) for name in dir(thing)}
        self.assertEqual(values & own - set(VALUES_TOO), set())
        self.assertEqual(methods & own - set(METHODS) - set(TWO_UNDERSCORES), set())

    def test_values_are_given_through_a_local_name(self):
        for place, node in nodes(ast.Attribute):
            if isinstance(node.ctx, (ast.Store, ast.Del)):
                self.assertIsInstance(node.value, (ast.Name, ast.Attribute), place)
                self.assertIsInstance(node.ctx, ast.Store, place)

    def test_locals_are_not_called_like_classes_and_imports(self):
        for path in files():
            tree = tree_of(path)
            drawn = {name.name for row in tree.body if isinstance(row, ast.ImportFrom) for name in row.names}
            tops_here = drawn | {row.name for row in tree.body if isinstance(row, ast.ClassDef)}
            for node in ast.walk(tree):
                if isinstance(node, ast.arg):
                    self.assertNotIn(node.arg, tops_here, path.name)
                elif isinstance(node, ast.Name) and not isinstance(node.ctx, ast.Load):
                    self.assertNotIn(node.id, tops_here, path.name)

    def test_what_a_length_and_a_text_give_back(self):
        allowed = {"__len__": ("len",), "__str__": ("str", "repr"), "__repr__": ("str", "repr")}
        for place, node in nodes(ast.FunctionDef):
            if node.name in allowed:
                for row in ast.walk(node):
                    if isinstance(row, ast.Return) and isinstance(row.value, ast.Call):
                        self.assertIn(getattr(row.value.func, "id", None), allowed[node.name], place)
                    elif isinstance(row, ast.Return):
                        self.assertIsInstance(row.value, (ast.Constant, ast.JoinedStr), place)

    def test_is_stands_beside_none_true_and_false(self):
        for place, node in nodes(ast.Compare):
            for sign, right in zip(node.ops, node.comparators):
                if isinstance(sign, (ast.Is, ast.IsNot)):
                    self.assertIn(getattr(right, "value", 0), (None, True, False), place)


if __name__ == "__main__":
    unittest.main()
