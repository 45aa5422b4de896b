"""The rules of LANGUAGE.md that can be looked up in the files of the package."""

import ast
import builtins
import pathlib
import re
import unittest

PACKAGE = pathlib.Path(__file__).resolve().parent.parent / "onceeach"
FILES = sorted(PACKAGE.glob("*.py"))
BUILTINS = set(
    "len range enumerate zip min max sum abs sorted reversed int str bool bytes list tuple dict set frozenset "
    "isinstance ord repr any all divmod iter next Exception ValueError TypeError KeyError IndexError LookupError "
    "ZeroDivisionError ArithmeticError OverflowError RuntimeError NotImplementedError AttributeError "
    "StopIteration NotImplemented".split()
)
METHODS = set(
    "append clear copy count endswith extend find get index insert isalnum isalpha isdigit islower isspace isupper "
    "items join keys ljust lower lstrip partition pop remove replace reverse rfind rjust rpartition rsplit rstrip "
    "setdefault split splitlines startswith strip update upper values zfill bit_length sort add discard".split()
)
BARRED_WORDS = re.compile(
    r"\b(type|typing|typing_extensions|enum|Enum|IntEnum|StrEnum|Flag|IntFlag|Generic|Protocol|ABC|ABCMeta|"
    r"namedtuple|NamedTuple|TypedDict|TYPE_CHECKING|abstractmethod)\b|dataclass|overload|contextmanager"
)
BARRED_NAMES = set("register mro elements open input version_info with_traceback add_note".split())
BARRED_KINDS = (
    ast.Global, ast.Import, ast.AsyncFunctionDef, ast.AsyncFor, ast.AsyncWith, ast.Await, ast.Div,
)


def names_bound(tree):
    """Every name that a file gives a meaning: functions, classes, parameters and targets."""
    found = []
    for node in ast.walk(tree):
        if isinstance(node, (ast.FunctionDef, ast.ClassDef)):
            found.append(node.name)
        elif isinstance(node, ast.arg):
            found.append(node.arg)
        elif isinstance(node, ast.Name) and isinstance(node.ctx, ast.Store):
            found.append(node.id)
        elif isinstance(node, ast.MatchAs) and node.name is not None:
            found.append(node.name)
    return found


def names_imported(tree):
    """Every name that a file imports."""
    return [name.asname or name.name for node in tree.body if isinstance(node, ast.ImportFrom) for name in node.names]


def each_file():
    """Each file's name, text and tree."""
    found = []
    for file in FILES:
        text = file.read_text(encoding="utf-8")
        found.append((file.name, text, ast.parse(text)))
    return found


class TestLanguage(unittest.TestCase):

    def test_folder(self):
        found = [path for path in PACKAGE.iterdir() if path.name != "__pycache__"]
        self.assertEqual(FILES, sorted(found))
        self.assertIn(PACKAGE / "__init__.py", FILES)
        self.assertLessEqual(len(FILES), 100)

    def test_sizes_and_signs(self):
        for file, text, tree in each_file():
            self.assertRegex(text, r"\A[\n -~]*\Z", file)
            self.assertLessEqual(len(text.splitlines()), 400, file)
            self.assertLessEqual(max(map(len, text.splitlines())), 120, file)
            for node in ast.walk(tree):
                if isinstance(node, ast.FunctionDef):
                    self.assertLessEqual(node.end_lineno - node.lineno + 1, 40, (file, node.name))

    def test_words(self):
        for file, text, tree in each_file():
            self.assertIsNone(BARRED_WORDS.search(text), file)
            for node in ast.walk(tree):
                if isinstance(node, ast.Constant) and isinstance(node.value, str):
                    self.assertNotIn("%", node.value, file)

    def test_imports(self):
        for file, text, tree in each_file():
            for node in ast.walk(tree):
                if isinstance(node, ast.ImportFrom):
                    self.assertIn(node, tree.body, file)
                    self.assertEqual(0, node.level, file)
                    home, name = node.module.split(".")
                    self.assertEqual("onceeach", home, file)
                    defining = ast.parse((PACKAGE / f"{name}.py").read_text(encoding="utf-8"))
                    for taken in node.names:
                        self.assertIn(taken.name, names_bound(defining), file)

    def test_no_two_import_from_each_other(self):
        needs = {}
        for file, text, tree in each_file():
            taken = [node.module.split(".")[1] for node in tree.body if isinstance(node, ast.ImportFrom)]
            needs[file.removesuffix(".py")] = set(taken)
        while needs:
            free = [file for file in needs if not needs[file] & set(needs)]
            self.assertNotEqual([], free, needs)
            for file in free:
                del needs[file]

    def test_statements(self):
        for file, text, tree in each_file():
            for node in ast.walk(tree):
                self.assertNotIsInstance(node, BARRED_KINDS, file)
                if isinstance(node, ast.Compare):
                    for sign, right in zip(node.ops, node.comparators):
                        if isinstance(sign, (ast.Is, ast.IsNot)):
                            self.assertIn(repr(getattr(right, "value", "")), ("None", "True", "False"), file)
                if isinstance(node, ast.BinOp) and isinstance(node.op, ast.Pow):
                    self.assertIn(getattr(node.right, "value", None), range(65), file)

    def test_names(self):
        for file, text, tree in each_file():
            for name in names_bound(tree):
                if name == "__init__":
                    continue
                self.assertRegex(name, r"\A[A-Za-z][A-Za-z0-9_]*\Z", file)
                self.assertNotIn(name, BARRED_NAMES, file)
                self.assertFalse(hasattr(builtins, name), (file, name))
                self.assertNotIn(name, names_imported(tree), file)

    def test_builtins_and_methods(self):
        for file, text, tree in each_file():
            own = names_bound(tree)
            for node in ast.walk(tree):
                if isinstance(node, ast.Name) and hasattr(builtins, node.id):
                    self.assertIn(node.id, BUILTINS, file)
                if isinstance(node, ast.Call) and isinstance(node.func, ast.Attribute):
                    self.assertIn(node.func.attr, METHODS | set(own), file)

    def test_module_level(self):
        for file, text, tree in each_file():
            bound = []
            for node in tree.body:
                self.assertIsInstance(node, (ast.Expr, ast.ImportFrom, ast.FunctionDef, ast.ClassDef, ast.Assign), file)
                if isinstance(node, (ast.FunctionDef, ast.ClassDef)):
                    bound.append(node.name)
                if isinstance(node, ast.Assign):
                    bound += [target.id for target in node.targets]
            bound += names_imported(tree)
            self.assertEqual(len(set(bound)), len(bound), file)
