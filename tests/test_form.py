"""The form of the package's files: the rules of the language subset that can be seen in the code."""

import ast
import builtins
import io
import re
import tokenize
import unittest
from pathlib import Path

FOLDER = Path(__file__).resolve().parent.parent / "powerrests"
FILES = sorted(FOLDER.glob("*.py"))

ALLOWED_BUILTINS = set(
    "len range enumerate zip min max sum abs sorted reversed int str bool bytes list tuple dict set frozenset "
    "isinstance ord repr any all divmod Exception ValueError TypeError KeyError IndexError LookupError "
    "ZeroDivisionError ArithmeticError OverflowError RuntimeError NotImplementedError AttributeError "
    "StopIteration".split()
)
ALLOWED_METHODS = set(
    "append clear copy count endswith extend find get index insert isalnum isalpha isdigit islower isspace "
    "isupper items join keys ljust lower lstrip partition pop remove replace reverse rfind rjust rpartition "
    "rsplit rstrip setdefault split splitlines startswith strip update upper values zfill bit_length add "
    "discard isascii isdecimal removeprefix __init__".split()
)
BARRED_WORDS = re.compile(
    r"\b(type|typing|typing_extensions|enum|Enum|IntEnum|StrEnum|Flag|IntFlag|Generic|Protocol|ABC|ABCMeta|"
    r"namedtuple|NamedTuple|TypedDict|TYPE_CHECKING|abstractmethod)\b|dataclass|overload|contextmanager"
)
BARRED_NAMES = set(
    "register mro elements open input version_info with_traceback add_note attrgetter breakpoint builtins "
    "compile copyright credits delattr dir eval exec exit gc getattr globals hasattr help id importlib license "
    "locals methodcaller os quit setattr super vars sys".split()
)
BARRED_NODES = (
    ast.With, ast.AsyncWith, ast.AsyncFor, ast.AsyncFunctionDef, ast.Await, ast.Match, ast.Global, ast.Nonlocal,
    ast.Yield, ast.YieldFrom, ast.GeneratorExp, ast.NamedExpr, ast.Div, ast.MatMult, ast.Import,
)


def top_names(tree):
    """The names that a file binds at module level, each as often as it does."""
    names = []
    for node in tree.body:
        if isinstance(node, (ast.FunctionDef, ast.ClassDef)):
            names.append(node.name)
        elif isinstance(node, ast.Assign):
            names += [target.id for target in node.targets]
        elif isinstance(node, ast.ImportFrom):
            names += [alias.asname or alias.name for alias in node.names]
    return names


def imports_of(tree):
    return [node for node in ast.walk(tree) if isinstance(node, ast.ImportFrom)]


def bound_names(tree):
    """All names bound in functions: parameters, targets, nested functions, caught errors."""
    for node in ast.walk(tree):
        if isinstance(node, ast.arg):
            yield node.arg
        elif isinstance(node, ast.Name) and not isinstance(node.ctx, ast.Load):
            yield node.id
        elif isinstance(node, ast.ExceptHandler) and node.name:
            yield node.name


class Form(unittest.TestCase):
    def setUp(self):
        self.texts = {path.stem: path.read_bytes().decode("ascii") for path in FILES}
        self.trees = {name: ast.parse(text) for name, text in self.texts.items()}

    def test_folder_has_python_files_only(self):
        for path in FOLDER.iterdir():
            if path.name != "__pycache__":
                self.assertRegex(path.name, r"^[a-z][a-z0-9_]*\.py$|^__init__\.py$")

    def test_signs_and_sizes(self):
        for name, text in self.texts.items():
            self.assertRegex(text, r"\A[ -~\n]*\Z", name)
            lines = text.split("\n")
            self.assertLessEqual(len(lines), 400, name)
            self.assertLessEqual(max(len(line) for line in lines), 120, name)
            for node in ast.walk(self.trees[name]):
                if isinstance(node, ast.FunctionDef):
                    self.assertLessEqual(node.end_lineno - node.lineno + 1, 40, (name, node.name))

    def test_barred_words(self):
        for name, text in self.texts.items():
            self.assertIsNone(BARRED_WORDS.search(text), name)

    def test_strings_have_no_per_cent_and_few_escapes(self):
        for name, text in self.texts.items():
            for token in tokenize.generate_tokens(io.StringIO(text).readline):
                if token.type == tokenize.STRING:
                    self.assertNotIn("%", token.string, name)
                    self.assertIsNone(re.search(r"\\[^nt\\'\"]", token.string), (name, token.string))

    def test_statements_and_expressions(self):
        for name, tree in self.trees.items():
            for node in ast.walk(tree):
                where = (name, getattr(node, "lineno", 0))
                self.assertNotIsInstance(node, BARRED_NODES, where)
                if isinstance(node, ast.Constant):
                    self.assertNotIsInstance(node.value, (float, complex), where)
                if isinstance(node, ast.Starred):
                    self.assertIsInstance(node.ctx, ast.Store, where)
                if isinstance(node, (ast.For, ast.While)):
                    self.assertEqual(node.orelse, [], where)
                if isinstance(node, (ast.BinOp, ast.AugAssign)) and isinstance(node.op, ast.Pow):
                    right = node.right if isinstance(node, ast.BinOp) else node.value
                    self.assertIsInstance(right, ast.Constant, where)
                if isinstance(node, ast.Compare):
                    for sign, right in zip(node.ops, node.comparators):
                        if isinstance(sign, (ast.Is, ast.IsNot)):
                            self.assertIsInstance(right, ast.Constant, where)
                            self.assertIsInstance(right.value, (bool, type(None)), where)

    def test_functions_and_classes_are_plain(self):
        for name, tree in self.trees.items():
            for node in ast.walk(tree):
                if isinstance(node, (ast.FunctionDef, ast.ClassDef)):
                    self.assertEqual(node.decorator_list, [], (name, node.name))
                if isinstance(node, ast.arguments):
                    self.assertEqual((node.vararg, node.kwarg, node.posonlyargs), (None, None, []), name)
                if isinstance(node, ast.ClassDef):
                    self.assertLessEqual(len(node.bases), 1, (name, node.name))
                    self.assertEqual(node.keywords, [], (name, node.name))

    def test_module_level_binds_each_name_once(self):
        for name, tree in self.trees.items():
            names = top_names(tree)
            self.assertEqual(sorted(names), sorted(set(names)), name)
            for node in tree.body:
                if isinstance(node, ast.Expr):
                    self.assertIsInstance(node.value, ast.Constant, name)
                else:
                    self.assertIsInstance(node, (ast.FunctionDef, ast.ClassDef, ast.Assign, ast.ImportFrom), name)

    def test_imports_name_the_file_that_defines(self):
        for name, tree in self.trees.items():
            for node in imports_of(tree):
                self.assertEqual(node.level, 0, name)
                package, _, source = node.module.partition(".")
                self.assertEqual(package, "powerrests", name)
                own = self.trees[source]
                imported = [alias.name for each in imports_of(own) for alias in each.names]
                for alias in node.names:
                    self.assertIn(alias.name, top_names(own), (name, alias.name))
                    self.assertNotIn(alias.name, imported, (name, alias.name))

    def test_imports_are_used_and_never_go_round(self):
        ahead = {name: {node.module.partition(".")[2] for node in imports_of(tree)}
                 for name, tree in self.trees.items()}
        while ahead:
            free = [name for name, sources in ahead.items() if not sources & set(ahead)]
            self.assertTrue(free, f"files that import each other are among {sorted(ahead)}")
            for name in free:
                del ahead[name]
        for name, tree in self.trees.items():
            used = {node.id for node in ast.walk(tree) if isinstance(node, ast.Name)}
            for node in imports_of(tree):
                for alias in node.names:
                    self.assertIn(alias.asname or alias.name, used, name)

    def test_names(self):
        for name, tree in self.trees.items():
            defined = {node.name for node in ast.walk(tree) if isinstance(node, (ast.FunctionDef, ast.ClassDef))}
            attributes = {node.attr for node in ast.walk(tree) if isinstance(node, ast.Attribute)}
            for each in defined | attributes | set(bound_names(tree)):
                self.assertFalse(each.startswith("_") and each != "__init__", (name, each))
                self.assertNotIn(each, BARRED_NAMES, name)
            taken = set(dir(builtins)) | {alias.name for node in imports_of(tree) for alias in node.names}
            taken |= {node.name for node in tree.body if isinstance(node, ast.ClassDef)}
            self.assertEqual(sorted(set(bound_names(tree)) & taken), [], name)

    def test_builtins_and_methods(self):
        own = {node.name for tree in self.trees.values() for node in ast.walk(tree)
               if isinstance(node, ast.FunctionDef)}
        for name, tree in self.trees.items():
            for node in ast.walk(tree):
                if isinstance(node, ast.Name) and node.id in dir(builtins):
                    self.assertIn(node.id, ALLOWED_BUILTINS, (name, node.lineno))
                if isinstance(node, ast.Call) and isinstance(node.func, ast.Attribute):
                    self.assertIn(node.func.attr, ALLOWED_METHODS | own, (name, node.lineno))


if __name__ == "__main__":
    unittest.main()
