"""Holds the package's files to the rules of the language they keep to, as far as a walk over the code can see them."""

import ast
import builtins
import re
import unittest
from pathlib import Path

PACKAGE = Path(__file__).resolve().parent.parent / "backslope"
FILES = sorted(PACKAGE.glob("*.py"))

STATEMENTS = (
    ast.Assign, ast.AugAssign, ast.If, ast.While, ast.For, ast.Return, ast.Break, ast.Continue, ast.Pass, ast.Raise,
    ast.Try, ast.Expr, ast.FunctionDef, ast.ClassDef, ast.ImportFrom)
EXPRESSIONS = (
    ast.Constant, ast.Name, ast.Attribute, ast.Subscript, ast.Slice, ast.Call, ast.List, ast.Tuple, ast.Dict, ast.Set,
    ast.BinOp, ast.UnaryOp, ast.BoolOp, ast.Compare, ast.IfExp, ast.ListComp, ast.Lambda, ast.JoinedStr,
    ast.FormattedValue)
OWN_NAMES = set(
    "len range enumerate zip min max sum abs sorted reversed int str bool list tuple dict set frozenset isinstance "
    "ord repr any all divmod Exception ValueError TypeError KeyError IndexError LookupError ZeroDivisionError "
    "ArithmeticError OverflowError RuntimeError NotImplementedError AttributeError StopIteration".split())
METHODS = set(
    "append clear copy count endswith extend find get index insert isalnum isalpha isdigit islower isspace isupper "
    "items join keys ljust lower lstrip partition pop remove replace reverse rfind rjust rpartition rsplit rstrip "
    "setdefault split splitlines startswith strip update upper values zfill bit_length __init__".split())
WALKED = {"zip", "enumerate", "reversed", "range"}
WALKERS = {"list", "tuple", "dict", "sorted", "sum", "any", "all", "enumerate", "zip", "min", "max"}
WORDS = re.compile(
    r"\b(type|typing|typing_extensions|enum|Enum|IntEnum|StrEnum|Flag|IntFlag|Generic|Protocol|ABC|ABCMeta|namedtuple"
    r"|NamedTuple|TypedDict|TYPE_CHECKING|abstractmethod)\b|dataclass|overload|contextmanager")
PLAIN = re.compile(r"[A-Za-z][A-Za-z0-9_]*\Z")


def trees():
    return [(path.name, ast.parse(path.read_text())) for path in FILES]


def nodes(kind):
    return [(name, node) for name, tree in trees() for node in ast.walk(tree) if isinstance(node, kind)]


def bound_names(function):
    names = [argument.arg for argument in function.args.args]
    for node in ast.walk(function):
        if isinstance(node, ast.Name) and isinstance(node.ctx, ast.Store):
            names.append(node.id)
    return names


def own_methods():
    classes = [node for name, node in nodes(ast.ClassDef)]
    return [part.name for node in classes for part in node.body
            if isinstance(part, ast.FunctionDef) and part.name != "__init__"]


class Language(unittest.TestCase):
    def test_files(self):
        for path in PACKAGE.iterdir():
            if path.name != "__pycache__":
                self.assertRegex(path.name, r"\A[a-z_][a-z0-9_]*\.py\Z")
        for path in FILES:
            text = path.read_text(encoding="ascii")
            self.assertRegex(text, r"\A[\n -~]*\Z", path.name)
            self.assertLessEqual(len(text.splitlines()), 400, path.name)
            self.assertIsNone(WORDS.search(text), path.name)
            for line in text.splitlines():
                self.assertLessEqual(len(line), 120, line)

    def test_functions(self):
        for name, node in nodes((ast.FunctionDef, ast.ClassDef)):
            self.assertEqual(node.decorator_list, [], node.name)
        for name, node in nodes(ast.FunctionDef):
            self.assertLessEqual(node.end_lineno - node.lineno + 1, 40, node.name)
            plain = node.args
            self.assertFalse(plain.vararg or plain.kwarg or plain.kwonlyargs or plain.posonlyargs, node.name)

    def test_imports(self):
        for name, node in nodes((ast.Import, ast.ImportFrom)):
            self.assertIsInstance(node, ast.ImportFrom, name)
            self.assertRegex(node.module, r"\Abackslope\.[a-z_]+\Z")
            self.assertEqual(node.level, 0)
            source = ast.parse((PACKAGE / (node.module.split(".")[1] + ".py")).read_text())
            defined = [part.name for part in source.body if isinstance(part, (ast.FunctionDef, ast.ClassDef))]
            defined += [part.targets[0].id for part in source.body if isinstance(part, ast.Assign)]
            for alias in node.names:
                self.assertIn(alias.name, defined)

    def test_imports_are_used(self):
        for name, tree in trees():
            used = [node.id for node in ast.walk(tree) if isinstance(node, ast.Name)]
            for node in tree.body:
                if isinstance(node, ast.ImportFrom):
                    for alias in node.names:
                        self.assertIn(alias.name, used, name)

    def test_no_two_files_draw_from_one_another(self):
        drawn = {name[:-3]: set() for name, tree in trees()}
        for name, node in nodes(ast.ImportFrom):
            drawn[name[:-3]].add(node.module.split(".")[1])
        while drawn:
            free = [name for name, sources in drawn.items() if not sources & set(drawn)]
            self.assertNotEqual(free, [], drawn)
            for name in free:
                drawn.pop(name)

    def test_statements(self):
        for name, node in nodes(ast.stmt):
            self.assertIsInstance(node, STATEMENTS, name)
            if isinstance(node, ast.Assign):
                self.assertEqual(len(node.targets), 1, name)
                self.assertNotIsInstance(node.targets[0], ast.Tuple, name)
            if isinstance(node, (ast.For, ast.While)):
                self.assertEqual(node.orelse, [], name)
            if isinstance(node, ast.Try):
                self.assertEqual(node.finalbody, [], name)
        for name, tree in trees():
            for node in ast.walk(tree):
                if isinstance(node, ast.Expr) and node is not tree.body[0]:
                    self.assertIsInstance(node.value, ast.Call, name)

    def test_expressions(self):
        for name, node in nodes(ast.expr):
            self.assertIsInstance(node, EXPRESSIONS, name)
            if isinstance(node, ast.Constant):
                self.assertIn(type(node.value), (int, str, bool, type(None)), name)
            if isinstance(node, ast.ListComp):
                self.assertEqual(len(node.generators), 1, name)
            if isinstance(node, ast.BinOp):
                self.assertNotIsInstance(node.op, (ast.Div, ast.Pow, ast.MatMult), name)
            if isinstance(node, ast.Compare) and isinstance(node.ops[0], (ast.Is, ast.IsNot)):
                self.assertIsInstance(node.comparators[0], ast.Constant, name)

    def test_names(self):
        for name, tree in trees():
            imported = [alias.name for node in tree.body if isinstance(node, ast.ImportFrom) for alias in node.names]
            classes = [node.name for node in tree.body if isinstance(node, ast.ClassDef)]
            for function in [node for node in ast.walk(tree) if isinstance(node, ast.FunctionDef)]:
                if function.name != "__init__":
                    self.assertRegex(function.name, PLAIN)
                for bound in bound_names(function):
                    self.assertRegex(bound, PLAIN)
                    self.assertNotIn(bound, imported + classes + dir(builtins), name)
            for node in ast.walk(tree):
                if isinstance(node, ast.Name) and hasattr(builtins, node.id):
                    self.assertIn(node.id, OWN_NAMES, name)

    def test_the_top_of_a_file(self):
        for name, tree in trees():
            self.assertIsNotNone(ast.get_docstring(tree), name)
            bound = []
            for node in tree.body[1:]:
                self.assertIsInstance(node, (ast.ImportFrom, ast.FunctionDef, ast.ClassDef, ast.Assign), name)
                if isinstance(node, (ast.FunctionDef, ast.ClassDef)):
                    bound.append(node.name)
                if isinstance(node, ast.Assign):
                    self.plain(node.value, list(bound))
                    bound.append(node.targets[0].id)
            self.assertEqual(len(bound), len(set(bound)), name)

    # Whole numbers, texts and their like, and functions from above, in lists, tuples and dicts.
    def plain(self, value, above):
        if isinstance(value, ast.Name):
            self.assertIn(value.id, above)
        elif isinstance(value, (ast.Tuple, ast.List)):
            for part in value.elts:
                self.plain(part, above)
                self.assertNotIsInstance(part, (ast.List, ast.Dict))
        elif isinstance(value, ast.Dict):
            for part in value.keys + value.values:
                self.plain(part, above)
                self.assertNotIsInstance(part, (ast.List, ast.Dict))
        else:
            ast.literal_eval(value)

    def test_keywords(self):
        kept = {"sorted": {"key", "reverse"}, "min": {"key", "default"}, "max": {"key", "default"},
                "sum": {"start"}, "enumerate": {"start"}, "zip": {"strict"}}
        for name, node in nodes(ast.Call):
            if isinstance(node.func, ast.Name) and hasattr(builtins, node.func.id):
                given = {keyword.arg for keyword in node.keywords}
                self.assertLessEqual(given, kept.get(node.func.id, set()), f"{name}:{node.lineno}")

    def test_methods(self):
        own = own_methods()
        self.assertEqual(len(own), len(set(own)))
        for method in own:
            for kind in (str, int, list, dict, set, bytes):
                self.assertFalse(hasattr(kind, method), method)
        for name, node in nodes(ast.Call):
            if isinstance(node.func, ast.Attribute):
                self.assertIn(node.func.attr, METHODS | set(own), name)

    def test_values_of_objects(self):
        own = own_methods()
        for name, node in nodes(ast.Attribute):
            if isinstance(node.ctx, ast.Store):
                self.assertIsInstance(node.value, ast.Name, name)
                self.assertNotIn(node.attr, own, name)
                for kind in (str, int, list, dict, set, bytes):
                    self.assertFalse(hasattr(kind, node.attr), node.attr)

    def test_texts(self):
        for name, node in nodes(ast.FormattedValue):
            self.assertIsInstance(node.value, ast.Name, name)
            self.assertIsNone(node.format_spec, name)
        for name, node in nodes(ast.Constant):
            if isinstance(node.value, str):
                self.assertNotIn("%", node.value, name)

    def test_walked_on_the_spot(self):
        for name, tree in trees():
            fine = []
            for node in ast.walk(tree):
                if isinstance(node, (ast.For, ast.comprehension)):
                    fine.append(node.iter)
                if isinstance(node, ast.Call) and isinstance(node.func, ast.Name) and node.func.id in WALKERS:
                    fine += node.args[:1]
                if isinstance(node, ast.Call) and isinstance(node.func, ast.Attribute) and node.func.attr == "join":
                    self.assertIsInstance(node.func.value, ast.Constant, name)
                    fine += node.args
            for node in ast.walk(tree):
                if isinstance(node, ast.Call) and isinstance(node.func, ast.Name) and node.func.id in WALKED:
                    self.assertIn(node, fine, f"{name}:{node.lineno}")


if __name__ == "__main__":
    unittest.main()
