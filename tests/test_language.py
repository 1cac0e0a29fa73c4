"""The package keeps to the part of Python that it is written in, as far as a short look can tell."""

import ast
import builtins
import re
import unittest
from pathlib import Path

PACKAGE = Path(__file__).resolve().parent.parent / "rayround"
FILES = sorted(path for path in PACKAGE.rglob("*.py"))

ALLOWED_BUILTINS = set("""
len range enumerate zip min max sum abs sorted reversed int str bool bytes list tuple dict set frozenset
isinstance ord repr any all divmod Exception ValueError TypeError KeyError IndexError LookupError
ZeroDivisionError ArithmeticError OverflowError RuntimeError NotImplementedError AttributeError StopIteration
""".split())
NO_WORDS = re.compile(
    r"\b(type|typing|typing_extensions|enum|Enum|IntEnum|StrEnum|Flag|IntFlag|Generic|Protocol|ABC|ABCMeta"
    r"|namedtuple|NamedTuple|TypedDict|TYPE_CHECKING|abstractmethod)\b|dataclass|overload|contextmanager"
)
NO_NODES = (
    ast.With, ast.Match, ast.Global, ast.Nonlocal, ast.Yield, ast.YieldFrom, ast.Await, ast.AsyncFunctionDef,
    ast.AsyncFor, ast.AsyncWith, ast.NamedExpr, ast.GeneratorExp, ast.Div, ast.MatMult, ast.Import, ast.TryStar,
)
METHODS = set("""
append clear copy count endswith extend find get index insert isalnum isalpha isdigit islower isspace isupper items
join keys ljust lower lstrip partition pop remove replace reverse rfind rjust rpartition rsplit rstrip setdefault
split splitlines startswith strip update upper values zfill bit_length
""".split())
DUNDERS = {"__init__", "__eq__", "__repr__", "__str__", "__len__"}


def parsed(path):
    return ast.parse(path.read_text(encoding="utf-8"))


def nodes():
    return [(path.name, node) for path in FILES for node in ast.walk(parsed(path))]


def names_given(node):
    """The names that a node binds or asks as a value."""
    if isinstance(node, (ast.FunctionDef, ast.ClassDef)):
        return [node.name]
    if isinstance(node, ast.Name):
        return [node.id]
    if isinstance(node, ast.arg):
        return [node.arg]
    if isinstance(node, ast.Attribute):
        return [node.attr]
    return []


class Language(unittest.TestCase):
    def test_there_are_files_and_nothing_else(self):
        self.assertIn(PACKAGE / "__init__.py", FILES)
        for path in PACKAGE.rglob("*"):
            if "__pycache__" not in path.parts:
                self.assertEqual(path.suffix, ".py", path)
                self.assertRegex(path.name, r"^[a-z0-9_]+\.py$")

    def test_signs_and_sizes(self):
        for path in FILES:
            text = path.read_bytes().decode("ascii")
            self.assertRegex(text, r"\A[ -~\n]*\Z", path)
            rows = text.split("\n")
            self.assertLessEqual(len(rows), 400, path)
            self.assertLessEqual(max(len(row) for row in rows), 120, path)
            self.assertIsNone(NO_WORDS.search(text), path)

    def test_functions_are_short_and_plain(self):
        for name, node in nodes():
            if isinstance(node, ast.FunctionDef):
                self.assertLessEqual(node.end_lineno - node.lineno + 1, 40, (name, node.name))
                self.assertEqual(node.decorator_list, [])
                self.assertIsNone(node.args.vararg or node.args.kwarg)
                self.assertEqual(node.args.posonlyargs, [])

    def test_no_node_is_outside(self):
        for name, node in nodes():
            self.assertNotIsInstance(node, NO_NODES, (name, getattr(node, "lineno", 0)))
            if isinstance(node, ast.Constant):
                self.assertNotIsInstance(node.value, (float, complex))
                if isinstance(node.value, str):
                    self.assertNotIn("%", node.value, name)

    def test_is_stands_beside_none_and_truths_alone(self):
        for name, node in nodes():
            if isinstance(node, ast.Compare) and any(isinstance(op, (ast.Is, ast.IsNot)) for op in node.ops):
                sides = [node.left] + node.comparators
                self.assertTrue(any(isinstance(side, ast.Constant) and side.value in (None, True, False)
                                    for side in sides), (name, node.lineno))

    def test_imports_stand_at_the_top_and_draw_from_the_package_alone(self):
        for path in FILES:
            tree = parsed(path)
            rows = [node for node in ast.walk(tree) if isinstance(node, ast.ImportFrom)]
            self.assertEqual(rows, [row for row in tree.body if isinstance(row, ast.ImportFrom)], path)
            for row in rows:
                self.assertEqual(row.level, 0, path)
                self.assertTrue(row.module.startswith("rayround."), (path, row.module))

    def test_names_are_drawn_from_the_file_that_defines_them_and_never_in_a_ring(self):
        drawn = {}
        for path in FILES:
            rows = [row for row in parsed(path).body if isinstance(row, ast.ImportFrom)]
            drawn[path.stem] = {row.module.split(".")[1] for row in rows}
            for row in rows:
                source = parsed(PACKAGE / (row.module.split(".")[1] + ".py"))
                defined = {node.name for node in source.body if isinstance(node, (ast.FunctionDef, ast.ClassDef))}
                for alias in row.names:
                    self.assertIn(alias.name, defined, (path.name, row.module))
                    self.assertIsNone(alias.asname, path.name)
        while drawn:
            done = [name for name in drawn if not drawn[name] & set(drawn)]
            self.assertTrue(done, f"these draw from one another: {sorted(drawn)}")
            for name in done:
                del drawn[name]

    def test_no_name_within_a_def_is_like_an_import_or_a_class(self):
        for path in FILES:
            tree = parsed(path)
            taken = {alias.name for node in tree.body if isinstance(node, ast.ImportFrom) for alias in node.names}
            taken |= {node.name for node in tree.body if isinstance(node, ast.ClassDef)}
            for node in ast.walk(tree):
                if isinstance(node, ast.arg):
                    self.assertNotIn(node.arg, taken, path.name)
                if isinstance(node, ast.Name) and isinstance(node.ctx, ast.Store):
                    self.assertNotIn(node.id, taken, path.name)

    def test_every_import_is_used(self):
        for path in FILES:
            tree = parsed(path)
            used = {node.id for node in ast.walk(tree) if isinstance(node, ast.Name)}
            for row in tree.body:
                if isinstance(row, ast.ImportFrom):
                    self.assertLessEqual({alias.name for alias in row.names}, used, path.name)

    def test_attributes_are_plain_methods_or_the_packages_own(self):
        own = {"__init__"}
        for name, node in nodes():
            if isinstance(node, ast.ClassDef):
                own |= {deed.name for deed in node.body if isinstance(deed, ast.FunctionDef)}
            if isinstance(node, ast.Attribute) and isinstance(node.ctx, ast.Store):
                own.add(node.attr)
        for name, node in nodes():
            if isinstance(node, ast.Attribute):
                self.assertIn(node.attr, METHODS | own, (name, node.lineno))

    def test_the_top_of_a_file(self):
        for path in FILES:
            bound = []
            for row in parsed(path).body:
                self.assertIsInstance(
                    row, (ast.Expr, ast.ImportFrom, ast.FunctionDef, ast.ClassDef, ast.Assign), path.name)
                if isinstance(row, ast.Expr):
                    self.assertIsInstance(row.value, ast.Constant, path.name)
                if isinstance(row, (ast.FunctionDef, ast.ClassDef)):
                    bound.append(row.name)
                if isinstance(row, ast.ImportFrom):
                    bound += [alias.name for alias in row.names]
                if isinstance(row, ast.Assign):
                    bound += [target.id for target in row.targets]
                    within = [node for node in ast.walk(row.value) if node is not row.value]
                    self.assertFalse([node for node in within if isinstance(node, (ast.List, ast.Dict, ast.Call))], path)
            self.assertEqual(len(bound), len(set(bound)), path.name)

    def test_names(self):
        for name, node in nodes():
            for word in names_given(node):
                self.assertTrue(word in DUNDERS or re.fullmatch(r"[A-Za-z][A-Za-z0-9_]*", word), (name, word))
            if isinstance(node, ast.Name) and isinstance(node.ctx, ast.Load) and hasattr(builtins, node.id):
                self.assertIn(node.id, ALLOWED_BUILTINS, name)
            bound = [node.arg] if isinstance(node, ast.arg) else []
            if isinstance(node, ast.Name) and isinstance(node.ctx, ast.Store):
                bound = [node.id]
            for word in bound:
                self.assertFalse(hasattr(builtins, word), (name, word))


if __name__ == "__main__":
    unittest.main()
