"""What can be seen of the language's rules in the package's own files."""

import ast
import builtins
import pathlib
import re
import unittest

PACKAGE = pathlib.Path(__file__).parent.parent / "calledroom"
FILES = sorted(PACKAGE.glob("*.py"))

# Python's own names that may stand, and the nodes that a file may be made of.
NAMES = set(
    "len range enumerate zip min max sum abs sorted reversed int str bool bytes list tuple dict set isinstance ord repr "
    "any all divmod Exception ValueError TypeError KeyError IndexError LookupError ZeroDivisionError ArithmeticError "
    "OverflowError RuntimeError NotImplementedError AttributeError StopIteration".split()
)
NODES = set(
    "Module Expr Constant ImportFrom alias FunctionDef arguments arg ClassDef Assign AugAssign Name Load Store Del Delete "
    "Return If While For Break Continue Pass Raise Try ExceptHandler Assert Call keyword Attribute Subscript Slice Tuple "
    "List Dict ListComp DictComp SetComp comprehension Set Lambda IfExp BoolOp And Or UnaryOp Not USub BinOp Add Sub Mult "
    "FloorDiv Mod Pow BitAnd BitOr BitXor LShift RShift Compare Eq NotEq Lt LtE Gt GtE Is IsNot In NotIn JoinedStr "
    "FormattedValue Starred".split()
)
METHODS = set(
    "append clear copy count endswith extend find get index insert isalnum isalpha isdigit islower isspace isupper items "
    "join keys ljust lower lstrip partition pop remove replace reverse rfind rjust rpartition rsplit rstrip setdefault "
    "split splitlines startswith strip update upper values zfill bit_length add discard sort __init__".split()
)
UNUSED = set("register mro elements open input version_info with_traceback add_note".split())
WORDS = set(
    "type typing typing_extensions enum Enum IntEnum StrEnum Flag IntFlag Generic Protocol ABC ABCMeta namedtuple "
    "NamedTuple TypedDict TYPE_CHECKING abstractmethod".split()
)


def trees():
    return [(path.name, ast.parse(path.read_text(encoding="ascii"))) for path in FILES]


def bound_names(tree):
    """All names that a file gives anything to, parameters among them."""
    names = [node.id for node in ast.walk(tree) if isinstance(node, ast.Name) and isinstance(node.ctx, ast.Store)]
    names += [node.arg for node in ast.walk(tree) if isinstance(node, ast.arg)]
    return names


def defined_names(tree):
    """All names of defs and classes of a file."""
    return [node.name for node in ast.walk(tree) if isinstance(node, (ast.FunctionDef, ast.ClassDef))]


def imported_names(tree):
    return [part.name for node in tree.body if isinstance(node, ast.ImportFrom) for part in node.names]


def own_values():
    """All values that objects of the package's classes are given."""
    stores = [node for name, tree in trees() for node in ast.walk(tree) if isinstance(node, ast.Attribute)]
    return set([node.attr for node in stores if isinstance(node.ctx, ast.Store)])


def own_methods():
    classes = [node for name, tree in trees() for node in tree.body if isinstance(node, ast.ClassDef)]
    methods = [row.name for node in classes for row in node.body if isinstance(row, ast.FunctionDef)]
    return set(methods) - {"__init__"}


def is_change(node):
    """Whether it calls a method that changes what a name is given."""
    if not isinstance(node, ast.Call) or not isinstance(node.func, ast.Attribute):
        return False
    changing = "append clear extend insert pop remove reverse setdefault update sort add discard".split()
    return isinstance(node.func.value, ast.Name) and node.func.attr in changing


def is_given_item(node):
    """Whether it is an item of a name that is given or taken away."""
    return isinstance(node, ast.Subscript) and isinstance(node.value, ast.Name) and not isinstance(node.ctx, ast.Load)


def makes_a_set(node):
    called = isinstance(node, ast.Call) and isinstance(node.func, ast.Name) and node.func.id == "set"
    return called or isinstance(node, (ast.Set, ast.SetComp))


def uses_beside_these(function, word):
    """The rows in which a kept set is used otherwise than it may be."""
    fit = []
    for node in ast.walk(function):
        if is_change(node) and node.func.attr in ("add", "discard"):
            fit.append(node.func.value)
        if isinstance(node, ast.Call) and isinstance(node.func, ast.Name) and node.func.id in ("len", "sorted"):
            fit += node.args
        if isinstance(node, ast.Compare) and isinstance(node.ops[0], (ast.In, ast.NotIn)):
            fit += node.comparators
    names = [node for node in ast.walk(function) if isinstance(node, ast.Name) and node.id == word]
    given = [node for node in names if isinstance(node.ctx, ast.Store)]
    return [node.lineno for node in names if node not in fit and node not in given] + given[1:]


class Language(unittest.TestCase):
    def test_files(self):
        self.assertIn("__init__.py", [path.name for path in FILES])
        for path in PACKAGE.iterdir():
            if path.name != "__pycache__":
                self.assertRegex(path.name, r"^[a-z][a-z0-9_]*\.py$|^__init__\.py$")

    def test_sizes_and_signs(self):
        for path in FILES:
            text = path.read_text(encoding="utf-8")
            rows = text.split("\n")
            self.assertLessEqual(len(rows), 400, path.name)
            self.assertLessEqual(max([len(row) for row in rows]), 120, path.name)
            self.assertRegex(text, r"^[ -~\n]*$", path.name)
            self.assertEqual(sorted(WORDS & set(re.findall(r"\w+", text))), [], path.name)

    def test_functions_are_short(self):
        for name, tree in trees():
            for node in ast.walk(tree):
                if isinstance(node, ast.FunctionDef):
                    self.assertLessEqual(node.end_lineno - node.lineno + 1, 40, (name, node.name))

    def test_nodes(self):
        for name, tree in trees():
            for node in ast.walk(tree):
                self.assertIn(node.__class__.__name__, NODES, (name, getattr(node, "lineno", 0)))
                if isinstance(node, ast.Constant):
                    self.assertNotIsInstance(node.value, float, name)
                    self.assertFalse(isinstance(node.value, str) and "%" in node.value, name)

    def test_imports(self):
        for name, tree in trees():
            for node in ast.walk(tree):
                if isinstance(node, ast.ImportFrom):
                    self.assertIn(node, tree.body, name)
                    self.assertEqual(node.level, 0, name)
                    self.assertRegex(node.module, r"^calledroom\.[a-z]+$")
                    home = ast.parse((PACKAGE / (node.module.split(".")[1] + ".py")).read_text())
                    for part in node.names:
                        self.assertIsNone(part.asname)
                        self.assertIn(part.name, defined_names(home) + bound_names(home), name)

    def test_no_two_files_draw_from_one_another(self):
        draws = {}
        for name, tree in trees():
            goals = [node.module.split(".")[1] + ".py" for node in tree.body if isinstance(node, ast.ImportFrom)]
            draws[name] = set(goals)
        while draws:
            free = [name for name in draws if not draws[name] & set(draws)]
            self.assertTrue(free, draws)
            for name in free:
                del draws[name]

    def test_names(self):
        for name, tree in trees():
            own = bound_names(tree) + [word for word in defined_names(tree) if word != "__init__"]
            for word in own:
                self.assertRegex(word, r"^[A-Za-z][A-Za-z0-9_]*$", name)
                self.assertFalse(hasattr(builtins, word), (name, word))
                self.assertNotIn(word, UNUSED, name)
            self.assertEqual(sorted(set(bound_names(tree)) & set(imported_names(tree))), [], name)
            for node in ast.walk(tree):
                if isinstance(node, ast.Name) and hasattr(builtins, node.id):
                    self.assertIn(node.id, NAMES, name)

    def test_no_name_is_bound_twice_at_a_top(self):
        for name, tree in trees():
            tops = imported_names(tree)
            for node in tree.body:
                if isinstance(node, (ast.FunctionDef, ast.ClassDef)):
                    tops.append(node.name)
                if isinstance(node, ast.Assign):
                    tops += bound_names(node)
            self.assertEqual(len(tops), len(set(tops)), name)

    def test_all_that_is_drawn_is_used(self):
        for name, tree in trees():
            used = [node.id for node in ast.walk(tree) if isinstance(node, ast.Name)]
            for word in imported_names(tree):
                self.assertIn(word, used, name)

    def test_plain_parameters(self):
        for name, tree in trees():
            for node in ast.walk(tree):
                if isinstance(node, ast.FunctionDef):
                    self.assertEqual(node.decorator_list, [], name)
                    self.assertEqual((node.args.vararg, node.args.kwarg, node.args.posonlyargs), (None, None, []), name)

    def test_methods_and_values(self):
        values, methods = own_values(), own_methods()
        self.assertEqual(sorted(values & methods), [])
        pythons = [word for kind in (str, int, list, dict, set, bytes, tuple) for word in dir(kind)]
        self.assertEqual(sorted((values | methods) & set(pythons)), [])
        for name, tree in trees():
            for node in ast.walk(tree):
                if isinstance(node, ast.Attribute):
                    self.assertIn(node.attr, METHODS | values | methods, (name, node.lineno))

    def test_walks_change_nothing_that_they_walk(self):
        for name, tree in trees():
            for node in ast.walk(tree):
                if isinstance(node, ast.For):
                    walked = [part.id for part in ast.walk(node.iter) if isinstance(part, ast.Name)]
                    changes = [part.func.value.id for row in node.body for part in ast.walk(row) if is_change(part)]
                    changes += [part.value.id for row in node.body for part in ast.walk(row) if is_given_item(part)]
                    self.assertEqual(sorted(set(walked) & set(changes)), [], (name, node.lineno))

    def test_kept_sets(self):
        for name, tree in trees():
            for node in ast.walk(tree):
                if isinstance(node, ast.FunctionDef):
                    rows = [row for row in ast.walk(node) if isinstance(row, ast.Assign) and makes_a_set(row.value)]
                    kept = [row.targets[0].id for row in rows]
                    self.assertEqual(len(kept), len(set(kept)), (name, node.name))
                    for word in kept:
                        self.assertEqual(uses_beside_these(node, word), [], (name, node.name, word))

    def test_is_stands_beside_none_and_truths(self):
        for name, tree in trees():
            for node in ast.walk(tree):
                if isinstance(node, ast.Compare):
                    for sign, other in zip(node.ops, node.comparators):
                        if isinstance(sign, (ast.Is, ast.IsNot)):
                            self.assertTrue(isinstance(other, ast.Constant) and other.value in (None, True, False), name)

    def test_lists_and_dicts_of_a_top_are_read_alone(self):
        for name, tree in trees():
            kept = [node for node in tree.body if isinstance(node, ast.Assign) and isinstance(node.value, (ast.Dict, ast.List))]
            words = [word for node in kept for word in bound_names(node)]
            asked = []
            for node in ast.walk(tree):
                if isinstance(node, ast.Subscript):
                    asked.append(node.value)
                if isinstance(node, ast.Compare):
                    asked += node.comparators
                if isinstance(node, ast.Call) and isinstance(node.func, ast.Name) and node.func.id in ("dict", "list", "len"):
                    asked += node.args
            for node in ast.walk(tree):
                if isinstance(node, ast.Name) and node.id in words and isinstance(node.ctx, ast.Load):
                    self.assertIn(node, asked, (name, node.lineno))

    def test_walked_on_the_spot(self):
        for name, tree in trees():
            for node in ast.walk(tree):
                if isinstance(node, (ast.Assign, ast.Return)) and isinstance(node.value, ast.Call):
                    called = node.value.func
                    word = called.id if isinstance(called, ast.Name) else called.attr
                    self.assertNotIn(word, ("zip", "range", "enumerate", "reversed", "items", "keys", "values"), name)


if __name__ == "__main__":
    unittest.main()
