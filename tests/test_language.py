"""Those rules of the language (LANGUAGE.md) that can be seen in a file on its own.

Not all rules are looked at here: a package that passes may still break one.
"""

import ast
import builtins
import pathlib
import re
import unittest

PACKAGE = pathlib.Path(__file__).resolve().parent.parent / "packwants"

BUILTINS = set(
    "len range enumerate zip min max sum abs sorted reversed int str bool bytes list tuple dict set frozenset"
    " isinstance ord repr any all divmod iter next Exception ValueError TypeError KeyError IndexError LookupError"
    " ZeroDivisionError ArithmeticError OverflowError RuntimeError NotImplementedError AttributeError StopIteration"
    " NotImplemented".split()
)
METHODS = set(
    "append clear copy count endswith extend find get index insert isalnum isalpha isdigit islower isspace isupper"
    " items join keys ljust lower lstrip partition pop remove replace reverse rfind rjust rpartition rsplit rstrip"
    " setdefault split splitlines startswith strip update upper values zfill bit_length title capitalize swapcase"
    " casefold center expandtabs removeprefix removesuffix rindex isascii isdecimal isnumeric istitle isidentifier"
    " isprintable translate maketrans sort add discard encode decode hex from_bytes __init__".split()
)
BARRED_WORDS = re.compile(
    r"\b(type|typing|typing_extensions|enum|Enum|IntEnum|StrEnum|Flag|IntFlag|Generic|Protocol|ABC|ABCMeta"
    r"|namedtuple|NamedTuple|TypedDict|TYPE_CHECKING|abstractmethod)\b|dataclass|overload|contextmanager"
)
BARRED_NAMES = set("register mro elements open input law version_info with_traceback add_note id hash map".split())
BARRED_NODES = (
    ast.Global, ast.AsyncFunctionDef, ast.AsyncFor, ast.AsyncWith, ast.Await, ast.Div, ast.MatMult, ast.Import,
)


def own_names(tree):
    """The names that a file gives to functions, classes, parameters and variables, and its attributes' names."""
    for node in ast.walk(tree):
        if isinstance(node, (ast.FunctionDef, ast.ClassDef)):
            yield node.name
        elif isinstance(node, ast.arg):
            yield node.arg
        elif isinstance(node, ast.Name) and not isinstance(node.ctx, ast.Load):
            yield node.id
        elif isinstance(node, ast.Attribute):
            yield node.attr


def defined_names(tree):
    """The names that a file itself defines at module level."""
    defined = [node.name for node in tree.body if isinstance(node, (ast.FunctionDef, ast.ClassDef))]
    return defined + [node.targets[0].id for node in tree.body if isinstance(node, ast.Assign)]


def local_names(tree):
    """The parameters and the variables of all functions of a file."""
    for owner in ast.walk(tree):
        if isinstance(owner, (ast.FunctionDef, ast.Lambda)):
            for node in ast.walk(owner):
                if isinstance(node, ast.arg):
                    yield node.arg
                elif isinstance(node, ast.Name) and isinstance(node.ctx, ast.Store):
                    yield node.id


def imported(tree):
    """Pairs of a file of the package and a name that is imported from it."""
    for node in tree.body:
        if isinstance(node, ast.ImportFrom) and node.module != "__future__":
            for alias in node.names:
                yield node.module.partition(".")[2] + ".py", alias.name


def reached(trees, name):
    """The files that a file imports from, directly or through others."""
    found = set()
    waiting = [name]
    while waiting:
        for file in {file for file, own in imported(trees[waiting.pop()])} - found:
            found.add(file)
            waiting.append(file)
    return found


class LanguageTest(unittest.TestCase):
    def setUp(self):
        self.texts = {path.name: path.read_text("utf-8") for path in sorted(PACKAGE.glob("*.py"))}
        self.trees = {name: ast.parse(text) for name, text in self.texts.items()}
        self.methods = {
            node.name for tree in self.trees.values() for owner in ast.walk(tree) if isinstance(owner, ast.ClassDef)
            for node in owner.body if isinstance(node, ast.FunctionDef)
        }

    def nodes(self, *kinds):
        for name, tree in self.trees.items():
            for node in ast.walk(tree):
                if isinstance(node, kinds):
                    yield f"{name}:{getattr(node, 'lineno', 0)}", node

    def test_files(self):
        for path in PACKAGE.iterdir():
            if path.name != "__pycache__":
                self.assertRegex(path.name, r"^(__init__|__main__|[a-z][a-z0-9_]*)\.py$")
        self.assertIn("__init__.py", self.texts)

    def test_sizes_and_characters(self):
        for name, text in self.texts.items():
            rows = text.split("\n")
            self.assertLess(len(rows), 400, name)
            self.assertLessEqual(max(len(row) for row in rows), 120, name)
            self.assertRegex(text, r"\A[ -~\n]*\Z", name)
        for where, node in self.nodes(ast.FunctionDef):
            self.assertLessEqual(node.end_lineno - node.lineno + 1, 40, where)

    def test_module_level(self):
        for name, tree in self.trees.items():
            for node in tree.body:
                docstring = isinstance(node, ast.Expr) and node is tree.body[0]
                plain = isinstance(node, (ast.ImportFrom, ast.FunctionDef, ast.ClassDef, ast.Assign))
                self.assertTrue(docstring or plain, f"{name}:{node.lineno}")

    def test_imports(self):
        for where, node in self.nodes(ast.ImportFrom):
            if node.module == "__future__":
                continue
            self.assertEqual(node.level, 0, where)
            self.assertTrue(node.module.startswith("packwants."), where)
            tree = self.trees[node.module.partition(".")[2] + ".py"]
            for alias in node.names:
                self.assertIn(alias.name, defined_names(tree), where)

    def test_no_two_files_import_from_each_other(self):
        for name in self.trees:
            self.assertNotIn(name, reached(self.trees, name))

    def test_one_binding_for_each_name(self):
        for name, tree in self.trees.items():
            bound = defined_names(tree) + [own for file, own in imported(tree)]
            self.assertEqual(len(bound), len(set(bound)), name)
            classes = [node.name for node in tree.body if isinstance(node, ast.ClassDef)]
            barred = set(classes) | {own for file, own in imported(tree)} | set(dir(builtins))
            self.assertEqual(set(local_names(tree)) & barred, set(), name)

    def test_imports_are_used(self):
        for name, tree in self.trees.items():
            used = {node.id for node in ast.walk(tree) if isinstance(node, ast.Name)}
            self.assertEqual({own for file, own in imported(tree)} - used, set(), name)

    def test_no_name_is_a_method_and_an_attribute(self):
        stored = {node.attr for where, node in self.nodes(ast.Attribute) if isinstance(node.ctx, ast.Store)}
        self.assertEqual(stored & self.methods, set())
        called = {id(node.func) for where, node in self.nodes(ast.Call)}
        for where, node in self.nodes(ast.Attribute):
            if isinstance(node.ctx, ast.Load) and id(node) not in called:
                self.assertIn(node.attr, stored, where)

    def test_what_is_iterated_at_once_is_not_stored(self):
        for where, node in self.nodes(ast.Assign, ast.Return):
            if isinstance(node.value, ast.Call) and isinstance(node.value.func, ast.Name):
                self.assertNotIn(node.value.func.id, ("zip", "enumerate", "reversed", "range", "set", "iter"), where)

    def test_escapes(self):
        for name, text in self.texts.items():
            self.assertIsNone(re.search(r"\\[^nt\\'\"]", text), name)

    def test_barred_nodes(self):
        self.assertEqual([where for where, node in self.nodes(*BARRED_NODES)], [])
        for where, node in self.nodes(ast.Constant):
            self.assertNotIsInstance(node.value, (float, complex), where)
            if isinstance(node.value, str):
                self.assertNotIn("%", node.value, where)
        for where, node in self.nodes(ast.Compare):
            if any(isinstance(sign, (ast.Is, ast.IsNot)) for sign in node.ops):
                self.assertIn(ast.unparse(node.comparators[-1]), ("None", "True", "False"), where)

    def test_builtins_and_methods(self):
        for where, node in self.nodes(ast.Name):
            if hasattr(builtins, node.id):
                self.assertIn(node.id, BUILTINS, where)
                self.assertIsInstance(node.ctx, ast.Load, where)
        for where, node in self.nodes(ast.Call):
            if isinstance(node.func, ast.Attribute):
                self.assertIn(node.func.attr, METHODS | self.methods, where)

    def test_names_and_words(self):
        for name, tree in self.trees.items():
            for own in own_names(tree):
                self.assertRegex(own, r"^([A-Za-z][A-Za-z0-9_]*|__[a-z]+__)$", name)
                self.assertNotIn(own, BARRED_NAMES, name)
            self.assertIsNone(BARRED_WORDS.search(self.texts[name]), name)


if __name__ == "__main__":
    unittest.main()
