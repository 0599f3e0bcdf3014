"""The form of the package: those rules of LANGUAGE.md that a short look at the files can check."""

import ast
import builtins
import re
import unittest
from pathlib import Path

PACKAGE = Path(__file__).resolve().parent.parent / "halfcrumb"
FILES = sorted(PACKAGE.glob("*.py"))
BUILTINS = set(
    "len range enumerate zip min max sum abs sorted reversed int str bool bytes list tuple dict set frozenset "
    "isinstance ord repr any all divmod Exception ValueError TypeError KeyError IndexError LookupError "
    "ZeroDivisionError ArithmeticError OverflowError RuntimeError NotImplementedError AttributeError StopIteration "
    "NotImplemented super property staticmethod classmethod".split()
)
DOUBLE_UNDERSCORE = set("__init__ __eq__ __repr__ __str__ __len__ __enter__ __exit__ __call__".split())
BARRED_NAMES = set("register mro elements open input version_info with_traceback add_note format format_map".split())
BARRED_WORDS = re.compile(
    r"\b(type|typing|typing_extensions|enum|Enum|IntEnum|StrEnum|Flag|IntFlag|Generic|Protocol|ABC|ABCMeta|namedtuple|"
    r"NamedTuple|TypedDict|TYPE_CHECKING|abstractmethod)\b|dataclass|overload|contextmanager"
)
BUILTIN_METHODS = {
    name for kind in (str, int, list, dict, set, bytes, tuple) for name in dir(kind) if not name.startswith("__")
}
OWN_METHODS_ALLOWED = set(
    "add discard append clear copy count endswith extend find get index insert isalnum isalpha isdigit islower "
    "isspace isupper items join keys ljust lower lstrip partition pop remove replace reverse rfind rjust rpartition "
    "rsplit rstrip setdefault split splitlines startswith strip update upper values zfill bit_length".split()
)
BARRED_NODES = (
    ast.Global, ast.AsyncFunctionDef, ast.AsyncFor, ast.AsyncWith, ast.Await, ast.Div, ast.GeneratorExp, ast.Import,
    ast.AnnAssign, ast.NamedExpr, ast.MatMult,
)


def trees():
    """Each file's name and its tree."""
    return [(path.name, ast.parse(path.read_text())) for path in FILES]


def nodes():
    """Each node of all files, with a text that tells where it stands."""
    return [
        (f"{name}:{getattr(node, 'lineno', 0)}", node) for name, tree in trees() for node in ast.walk(tree)
    ]


def bound_names(node):
    """The names that a node binds."""
    if isinstance(node, ast.Name) and isinstance(node.ctx, ast.Store):
        return [node.id]
    if isinstance(node, (ast.FunctionDef, ast.ClassDef)):
        return [node.name]
    if isinstance(node, ast.arg):
        return [node.arg]
    if isinstance(node, ast.ExceptHandler) and node.name:
        return [node.name]
    return []


def methods_of(tree):
    """Each method of each class of a tree."""
    return [
        method for kind in tree.body if isinstance(kind, ast.ClassDef)
        for method in kind.body if isinstance(method, ast.FunctionDef)
    ]


class Files(unittest.TestCase):
    def test_the_folder_has_python_files_only(self):
        self.assertIn(PACKAGE / "__init__.py", FILES)
        for path in PACKAGE.iterdir():
            if path.name != "__pycache__":
                self.assertRegex(path.name, r"^[a-z_][a-z0-9_]*\.py$")

    def test_signs_and_sizes(self):
        for path in FILES:
            text = path.read_text()
            self.assertRegex(text, r"\A[ -~\n]*\Z", path.name)
            lines = text.split("\n")
            self.assertLessEqual(len(lines), 400, path.name)
            self.assertLessEqual(max(len(line) for line in lines), 120, path.name)

    def test_functions_are_short(self):
        for where, node in nodes():
            if isinstance(node, ast.FunctionDef):
                self.assertLessEqual(node.end_lineno - node.lineno + 1, 40, where)

    def test_barred_words(self):
        for path in FILES:
            self.assertIsNone(BARRED_WORDS.search(path.read_text()), path.name)


class Imports(unittest.TestCase):
    def imports_of(self, tree):
        return [node for node in ast.walk(tree) if isinstance(node, ast.ImportFrom)]

    def test_each_names_the_file_that_defines_the_name(self):
        for name, tree in trees():
            for node in self.imports_of(tree):
                self.assertEqual(node.level, 0, name)
                self.assertIn(node, tree.body)
                self.assertRegex(node.module, r"^halfcrumb\.[a-z]+$")
                source = ast.parse((PACKAGE / f"{node.module.split('.')[1]}.py").read_text())
                defined = {
                    bound for part in source.body for inner in ([part] if hasattr(part, "name") else ast.walk(part))
                    for bound in bound_names(inner)
                }
                for alias in node.names:
                    self.assertIn(alias.name, defined, name)

    def test_no_two_files_import_each_other(self):
        graph = {
            f"halfcrumb.{name[:-3]}": {node.module for node in self.imports_of(tree)} for name, tree in trees()
        }
        while graph:
            free = {name for name, needed in graph.items() if not needed & set(graph)}
            self.assertTrue(free, sorted(graph))
            graph = {name: needed for name, needed in graph.items() if name not in free}


class Names(unittest.TestCase):
    def test_plain_names(self):
        for where, node in nodes():
            for name in bound_names(node):
                if name not in DOUBLE_UNDERSCORE:
                    self.assertFalse(name.startswith("_"), where)
                self.assertNotIn(name, BARRED_NAMES, where)
            if isinstance(node, ast.Attribute):
                self.assertNotIn(node.attr, BARRED_NAMES, where)

    def test_no_variable_hides_a_builtin_or_an_import(self):
        for file_name, tree in trees():
            taken = set(dir(builtins))
            taken.update(part.name for part in tree.body if isinstance(part, ast.ClassDef))
            taken.update(
                alias.name for part in tree.body if isinstance(part, ast.ImportFrom) for alias in part.names
            )
            for node in ast.walk(tree):
                if isinstance(node, (ast.arg, ast.Name)):
                    for name in bound_names(node):
                        self.assertNotIn(name, taken, f"{file_name}:{node.lineno}")

    def test_only_listed_builtins_are_read(self):
        for where, node in nodes():
            if isinstance(node, ast.Name) and isinstance(node.ctx, ast.Load) and hasattr(builtins, node.id):
                self.assertIn(node.id, BUILTINS, where)

    def test_no_name_is_a_method_here_and_an_attribute_there(self):
        methods = {method.name for name, tree in trees() for method in methods_of(tree)}
        attributes = {
            node.attr for where, node in nodes()
            if isinstance(node, ast.Attribute) and isinstance(node.ctx, ast.Store)
        }
        self.assertEqual(methods & attributes, set())
        self.assertEqual((methods & BUILTIN_METHODS) - OWN_METHODS_ALLOWED, set())
        self.assertEqual(attributes & BUILTIN_METHODS, set())


class Code(unittest.TestCase):
    def test_barred_statements_and_expressions(self):
        for where, node in nodes():
            self.assertNotIsInstance(node, BARRED_NODES, where)
            if isinstance(node, ast.Constant):
                self.assertNotIsInstance(node.value, (float, complex), where)
                if isinstance(node.value, str):
                    self.assertNotIn("%", node.value, where)

    def test_is_stands_with_none_true_and_false_only(self):
        for where, node in nodes():
            if isinstance(node, ast.Compare):
                for sign, thing in zip(node.ops, node.comparators):
                    if isinstance(sign, (ast.Is, ast.IsNot)):
                        self.assertIsInstance(thing, ast.Constant, where)
                        self.assertIn(thing.value, (None, True, False), where)

    def test_handlers_name_own_errors(self):
        for where, node in nodes():
            if isinstance(node, ast.ExceptHandler):
                self.assertIsInstance(node.type, ast.Name, where)
                self.assertFalse(hasattr(builtins, node.type.id), where)

    def test_no_decorator(self):
        for where, node in nodes():
            if isinstance(node, (ast.FunctionDef, ast.ClassDef)):
                self.assertEqual(node.decorator_list, [], where)

    def test_double_underscore_methods_return_at_the_end(self):
        for name, tree in trees():
            for method in methods_of(tree):
                if method.name.startswith("__"):
                    self.assertIn(method.name, DOUBLE_UNDERSCORE, name)
                if method.name in ("__len__", "__str__", "__repr__"):
                    self.assertIsInstance(method.body[-1], ast.Return, name)
                    self.assertIsInstance(method.body[-1].value, (ast.Call, ast.JoinedStr), name)


if __name__ == "__main__":
    unittest.main()
