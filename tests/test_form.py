"""The rules of form that can be seen from outside: a part of those that the package keeps."""

import ast
import builtins
import pathlib
import unittest

PACKAGE = pathlib.Path(__file__).resolve().parent.parent / "railshut"
FILES = sorted(path for path in PACKAGE.rglob("*") if "__pycache__" not in path.parts)
LIBRARY = ("heapq", "math", "itertools", "collections")
BUILTINS = (
    "len range enumerate zip min max sum abs sorted reversed int str bool bytes list tuple dict set frozenset "
    "isinstance ord repr any all divmod pow getattr hasattr setattr iter next map super type property staticmethod "
    "classmethod Exception ValueError TypeError KeyError IndexError LookupError ZeroDivisionError ArithmeticError "
    "OverflowError RuntimeError NotImplementedError AttributeError StopIteration NotImplemented"
).split()
AT_THE_TOP = (ast.ImportFrom, ast.FunctionDef, ast.ClassDef, ast.Assign, ast.Expr)
# Methods of builtin values are these, beside the package's own ones.
METHODS = (
    "append clear copy count endswith extend find get index insert isalnum isalpha isdigit islower isspace isupper items "
    "join keys ljust lower lstrip partition pop remove replace reverse rfind rjust rpartition rsplit rstrip setdefault "
    "split splitlines startswith strip update upper values zfill bit_length"
).split()
BARRED_NAMES = (
    "register mro elements open input law version_info with_traceback add_note attrgetter breakpoint builtins compile "
    "copyright credits delattr dir eval exec exit gc globals help id importlib license locals methodcaller os quit vars sys"
).split()
BARRED_BEGINNINGS = r"_(wall|pe_|dcw_|enum_|cm_|twin_re_|lay_|law_|stub_|sre|WallAttr|cold|outside|record|_)"
BARRED_WORDS = (
    r"\b(typing|typing_extensions|enum|Enum|IntEnum|StrEnum|Flag|IntFlag|Generic|Protocol|ABC|ABCMeta|namedtuple|NamedTuple"
    r"|TypedDict|TYPE_CHECKING|abstractmethod)\b|dataclass|overload|contextmanager"
)
NOT_USED = (
    ast.AsyncFunctionDef, ast.Await, ast.AsyncFor, ast.AsyncWith, ast.Import, ast.TryStar, ast.Div, ast.MatMult,
)


def trees():
    return [(path.name, ast.parse(path.read_text("ascii"))) for path in FILES]


def names_at_the_top(tree):
    """The names that a file defines itself."""
    names = [node.name for node in tree.body if isinstance(node, (ast.FunctionDef, ast.ClassDef))]
    for node in tree.body:
        if isinstance(node, ast.Assign):
            names.extend(target.id for target in node.targets)
    return names


def imported_names(tree):
    return [alias.asname or alias.name for node in tree.body if isinstance(node, ast.ImportFrom) for alias in node.names]


def names_inside(tree):
    """The parameters, local variables and methods of a file."""
    at_the_top = {id(target) for node in tree.body if isinstance(node, ast.Assign) for target in node.targets}
    names = set()
    for node in ast.walk(tree):
        if isinstance(node, ast.Name) and not isinstance(node.ctx, ast.Load) and id(node) not in at_the_top:
            names.add(node.id)
        if isinstance(node, ast.arg):
            names.add(node.arg)
        if isinstance(node, ast.FunctionDef) and node not in tree.body:
            names.add(node.name)
    return names


class Form(unittest.TestCase):
    def test_the_folder_holds_plain_files_only(self):
        self.assertTrue(FILES)
        for path in FILES:
            self.assertRegex(path.name, r"^[a-z0-9_]+\.py$")
            self.assertEqual(path.parent, PACKAGE)

    def test_characters_and_sizes(self):
        for path in FILES:
            text = path.read_text("ascii")
            self.assertTrue(all(sign == "\n" or " " <= sign <= "~" for sign in text), path.name)
            self.assertLessEqual(len(text.splitlines()), 399, path.name)
            self.assertLessEqual(max(len(line) for line in text.splitlines()), 120, path.name)

    def test_functions_are_short_and_plain(self):
        for name, tree in trees():
            for node in ast.walk(tree):
                self.assertNotIsInstance(node, NOT_USED, (name, getattr(node, "lineno", 0)))
                if isinstance(node, ast.FunctionDef):
                    self.assertLessEqual(node.end_lineno - node.lineno + 1, 40, (name, node.name))
                if isinstance(node, ast.Constant):
                    self.assertNotIsInstance(node.value, (float, complex), (name, node.lineno))

    def test_what_stands_at_the_top(self):
        for name, tree in trees():
            for node in tree.body:
                self.assertIsInstance(node, AT_THE_TOP, (name, node.lineno))
                if isinstance(node, ast.Expr):
                    self.assertIsInstance(node.value, ast.Constant, (name, node.lineno))
                if isinstance(node, ast.ImportFrom):
                    self.assertEqual(node.level, 0)
                    self.assertIn(node.module.split(".")[0], LIBRARY + ("railshut",), name)

    def test_imports_name_the_very_file_and_go_in_no_circle(self):
        defined = {name[:-3]: names_at_the_top(tree) for name, tree in trees()}
        needed = {}
        for name, tree in trees():
            froms = [node for node in tree.body if isinstance(node, ast.ImportFrom) and node.module not in LIBRARY]
            needed[name[:-3]] = [node.module.split(".")[1] for node in froms]
            for node in froms:
                self.assertLessEqual({alias.name for alias in node.names}, set(defined[node.module.split(".")[1]]), name)
        while needed:
            done = [module for module, others in needed.items() if not set(others) & set(needed)]
            self.assertTrue(done, needed)
            for module in done:
                del needed[module]

    def test_each_name_has_one_meaning(self):
        # The runner of the examples leaves a builtin "_" behind.
        every = set(dir(builtins)) - {"_"}
        for name, tree in trees():
            at_the_top = names_at_the_top(tree) + imported_names(tree)
            self.assertEqual(len(at_the_top), len(set(at_the_top)), name)
            inside = names_inside(tree)
            self.assertFalse(inside & set(imported_names(tree)), name)
            self.assertFalse((inside | set(at_the_top)) & (every - {"__init__"}), name)

    def test_names_are_plain(self):
        for name, tree in trees():
            told = names_inside(tree) | set(names_at_the_top(tree) + imported_names(tree))
            self.assertFalse(told & set(BARRED_NAMES), name)
            for one in told - {"_"}:
                self.assertRegex(one, "^(_?[A-Za-z][A-Za-z0-9_]*|__[a-z]+__)$", name)
                if not one.endswith("__"):
                    self.assertNotRegex(one, f"^{BARRED_BEGINNINGS}", name)
            read = {node.id for node in ast.walk(tree) if isinstance(node, ast.Name) and isinstance(node.ctx, ast.Load)}
            self.assertNotIn("_", read, name)

    def test_words_and_signs_in_strings(self):
        for path in FILES:
            self.assertNotRegex(path.read_text("ascii"), BARRED_WORDS, path.name)
        for name, tree in trees():
            for node in ast.walk(tree):
                if isinstance(node, ast.Constant) and isinstance(node.value, str):
                    self.assertNotIn("%", node.value, (name, node.lineno))

    def test_methods_are_the_told_ones(self):
        own = {node.name for _, tree in trees() for node in ast.walk(tree) if isinstance(node, ast.FunctionDef)}
        for name, tree in trees():
            for node in ast.walk(tree):
                if isinstance(node, ast.Call) and isinstance(node.func, ast.Attribute):
                    self.assertIn(node.func.attr, own | set(METHODS), (name, node.lineno))

    def test_builtins_are_the_told_ones(self):
        every = set(dir(builtins)) - {"_"}
        for name, tree in trees():
            used = {node.id for node in ast.walk(tree) if isinstance(node, ast.Name)}
            self.assertLessEqual(used & every, set(BUILTINS), name)
