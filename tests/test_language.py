"""The package's files keep to the part of Python that the program is written in, as far as a look at them can tell."""

import ast
import builtins
import pathlib
import re
import unittest

PACKAGE = pathlib.Path(__file__).resolve().parent.parent / "turnweave"
OWN_NAMES = set(
    "len range enumerate zip min max sum abs sorted reversed int str bool list tuple dict set frozenset isinstance ord"
    " repr any all divmod Exception ValueError TypeError KeyError IndexError LookupError ZeroDivisionError"
    " ArithmeticError OverflowError RuntimeError NotImplementedError".split()
)
OWN_METHODS = set(
    "append clear copy count endswith extend find get index insert isalnum isalpha isdigit islower isspace isupper items"
    " join keys ljust lower lstrip partition pop remove replace reverse rfind rjust rpartition rsplit rstrip setdefault"
    " split splitlines startswith strip update upper values zfill bit_length".split()
)
WORDS = re.compile(
    r"\b(type|typing|typing_extensions|enum|Enum|IntEnum|StrEnum|Flag|IntFlag|Generic|Protocol|ABC|ABCMeta|namedtuple"
    r"|NamedTuple|TypedDict|TYPE_CHECKING|abstractmethod)\b|dataclass|overload|contextmanager"
)
NODES = set(
    "Module Import ImportFrom alias FunctionDef arguments arg ClassDef Lambda Assign AugAssign If While For Return Break"
    " Continue Pass Raise Try ExceptHandler Expr Constant Name Attribute Subscript Slice List Tuple Dict Set Load Store"
    " BinOp Add Sub Mult FloorDiv Mod Pow BitAnd BitOr BitXor LShift RShift UnaryOp Not USub UAdd Invert BoolOp And Or"
    " Compare Eq NotEq Lt LtE Gt GtE Is IsNot In NotIn IfExp Call keyword ListComp comprehension JoinedStr"
    " FormattedValue".split()
)
NOWHERE = set(
    "register mro elements open input version_info with_traceback add_note attrgetter breakpoint builtins compile"
    " copyright credits delattr dir eval exec exit gc getattr globals hasattr help id importlib license locals"
    " methodcaller os quit setattr super type vars sys format format_map".split()
)
METHODS_WITH_UNDERSCORES = ("__init__", "__eq__", "__repr__", "__str__", "__len__")


def package_files():
    return sorted(path for path in PACKAGE.rglob("*") if path.is_file() and "__pycache__" not in path.parts)


def package_trees():
    return [(path.name, ast.parse(path.read_text(encoding="utf-8"))) for path in package_files()]


def package_nodes():
    """Each node of each file, with the file and the line as words for a failing test."""
    found = []
    for name, tree in package_trees():
        for node in ast.walk(tree):
            found.append((f"{name}, line {getattr(node, 'lineno', 1)}", node))
    return found


def drawn_from(tree):
    return [node.module.partition(".")[2] for node in tree.body if isinstance(node, ast.ImportFrom)]


def bound_names(node):
    """The names that a node binds, but for those of defs, classes and imports."""
    if isinstance(node, ast.Name) and isinstance(node.ctx, ast.Store):
        return [node.id]
    if isinstance(node, ast.arg):
        return [node.arg]
    if isinstance(node, ast.ExceptHandler) and node.name:
        return [node.name]
    return []


def defined_names(path):
    names = []
    for node in ast.parse(path.read_text(encoding="utf-8")).body:
        if isinstance(node, (ast.FunctionDef, ast.ClassDef)):
            names.append(node.name)
        elif isinstance(node, ast.Assign):
            names.append(node.targets[0].id)
    return names


class LanguageTest(unittest.TestCase):
    def test_files(self):
        self.assertIn("__init__.py", [path.name for path in package_files()])
        for path in package_files():
            self.assertRegex(path.name, r"\A[a-z0-9_]+\.py\Z")
            self.assertFalse(path.stem.startswith("test") or path.stem in ("site", "conftest"), path.name)

    def test_size_and_signs(self):
        for path in package_files():
            text = path.read_text(encoding="utf-8")
            rows = text.split("\n")
            self.assertLessEqual(len(rows), 400, path.name)
            self.assertLessEqual(max(len(row) for row in rows), 120, path.name)
            self.assertEqual([sign for sign in text if not (" " <= sign <= "~" or sign == "\n")], [], path.name)
            self.assertIsNone(WORDS.search(text), path.name)

    def test_only_plain_nodes(self):
        for where, node in package_nodes():
            self.assertIn(type(node).__name__, NODES, where)

    def test_top_of_a_file(self):
        for name, tree in package_trees():
            self.assertIsNotNone(ast.get_docstring(tree), name)
            for node in tree.body[1:]:
                self.assertIsInstance(node, (ast.ImportFrom, ast.FunctionDef, ast.ClassDef, ast.Assign), name)

    def test_imports_are_from_the_package_file_that_defines_the_name(self):
        for where, node in package_nodes():
            self.assertNotIsInstance(node, ast.Import, where)
            if isinstance(node, ast.ImportFrom):
                self.assertEqual(node.level, 0, where)
                self.assertRegex(node.module, r"\Aturnweave\.[a-z0-9_]+\Z", where)
                defined = defined_names(PACKAGE / (node.module.partition(".")[2] + ".py"))
                for alias in node.names:
                    self.assertIn(alias.name, defined, where)

    def test_functions_and_assignments(self):
        for where, node in package_nodes():
            if isinstance(node, (ast.FunctionDef, ast.ClassDef)):
                self.assertEqual(node.decorator_list, [], where)
                self.assertTrue(node.name in METHODS_WITH_UNDERSCORES or not node.name.startswith("_"), where)
            if isinstance(node, ast.FunctionDef):
                self.assertLessEqual(node.end_lineno - node.lineno + 1, 40, where)
            if isinstance(node, ast.arguments):
                self.assertEqual((node.vararg, node.kwarg, node.kwonlyargs, node.posonlyargs), (None, None, [], []), where)
            if isinstance(node, ast.Assign):
                self.assertEqual(len(node.targets), 1, where)
            if isinstance(node, (ast.While, ast.For)):
                self.assertEqual(node.orelse, [], where)
            if isinstance(node, ast.ListComp):
                self.assertEqual(len(node.generators), 1, where)
                self.assertLessEqual(len(node.generators[0].ifs), 1, where)

    def test_names(self):
        for where, node in package_nodes():
            if isinstance(node, ast.Name) and isinstance(node.ctx, ast.Load) and hasattr(builtins, node.id):
                self.assertIn(node.id, OWN_NAMES, where)
            if isinstance(node, ast.Name) and isinstance(node.ctx, ast.Store):
                self.assertFalse(hasattr(builtins, node.id) or node.id.startswith("_"), where)
            if isinstance(node, ast.arg):
                self.assertFalse(hasattr(builtins, node.arg) or node.arg.startswith("_"), where)

    def test_no_local_is_called_like_an_import_or_a_def_of_its_file(self):
        for name, tree in package_trees():
            taken = [alias.name for node in tree.body if isinstance(node, ast.ImportFrom) for alias in node.names]
            defs = [node.name for node in tree.body if isinstance(node, (ast.ClassDef, ast.FunctionDef))]
            tops = [one for node in tree.body if isinstance(node, ast.Assign) for one in bound_names(node.targets[0])]
            self.assertEqual(len(set(taken + defs + tops)), len(taken + defs + tops), name)
            for node in tree.body:
                if isinstance(node, (ast.ClassDef, ast.FunctionDef)):
                    locals_of = [one for inner in ast.walk(node) for one in bound_names(inner)]
                    self.assertEqual(set(locals_of) & set(taken + defs + tops), set(), name)

    def test_no_two_files_draw_from_one_another(self):
        drawn = {path.stem: drawn_from(ast.parse(path.read_text(encoding="utf-8"))) for path in package_files()}
        while drawn:
            free = [name for name in drawn if not set(drawn[name]) & set(drawn)]
            self.assertNotEqual(free, [], "these draw from one another: " + ", ".join(drawn))
            drawn = {name: drawn[name] for name in drawn if name not in free}

    def test_names_that_are_not_used(self):
        for where, node in package_nodes():
            names = bound_names(node)
            if isinstance(node, (ast.FunctionDef, ast.ClassDef)):
                names.append(node.name)
            if isinstance(node, ast.Name):
                names.append(node.id)
            if isinstance(node, ast.Attribute):
                names.append(node.attr)
            self.assertEqual(set(names) & NOWHERE, set(), where)

    def test_targets_are_plain(self):
        for where, node in package_nodes():
            if isinstance(node, ast.Assign):
                self.assertNotIsInstance(node.targets[0], (ast.Tuple, ast.List), where)

    def test_no_name_is_a_method_and_a_value(self):
        methods = set()
        values = set()
        for _, node in package_nodes():
            if isinstance(node, ast.ClassDef):
                methods.update(inner.name for inner in node.body if isinstance(inner, ast.FunctionDef))
            if isinstance(node, ast.Attribute) and isinstance(node.ctx, ast.Store):
                values.add(node.attr)
        self.assertEqual(methods & values, set())

    def test_methods(self):
        own = [node.name for _, node in package_nodes() if isinstance(node, ast.FunctionDef)]
        for where, node in package_nodes():
            if isinstance(node, ast.Call) and isinstance(node.func, ast.Attribute):
                self.assertIn(node.func.attr, OWN_METHODS.union(own), where)

    def test_values(self):
        for where, node in package_nodes():
            if isinstance(node, ast.Constant):
                self.assertIn(type(node.value), (int, str, bool, type(None)), where)
                self.assertNotIn("%", str(node.value), where)
            if isinstance(node, ast.Compare) and any(isinstance(one, (ast.Is, ast.IsNot)) for one in node.ops):
                self.assertIsInstance(node.comparators[0], ast.Constant, where)


if __name__ == "__main__":
    unittest.main()
