"""The form of the package's own files: what of the language's rules can be seen by reading them."""

import ast
import builtins
import pathlib
import re
import unittest

PACKAGE = pathlib.Path(__file__).resolve().parent.parent / "oppositions"
FILES = sorted(PACKAGE.rglob("*.py"))

NODES = (
    "Module Expr Constant ImportFrom alias FunctionDef arguments arg Return ClassDef Assign AugAssign If While For "
    "Break Continue Pass Raise Try ExceptHandler Call Name Attribute Subscript Slice List Tuple Dict ListComp "
    "comprehension BinOp UnaryOp BoolOp Compare IfExp Lambda keyword JoinedStr FormattedValue Load Store Add Sub Mult "
    "FloorDiv Mod Pow LShift RShift BitAnd BitOr BitXor Invert USub Not And Or Eq NotEq Lt LtE Gt GtE Is IsNot In NotIn"
).split()
BUILT_IN = (
    "len range enumerate zip min max sum abs sorted reversed int str bool list tuple dict isinstance ord repr any all "
    "divmod Exception ValueError TypeError KeyError IndexError LookupError ZeroDivisionError ArithmeticError "
    "OverflowError RuntimeError NotImplementedError AttributeError StopIteration"
).split()
METHODS = (
    "append clear copy count endswith extend find get index insert isalnum isalpha isdigit islower isspace isupper "
    "items join keys ljust lower lstrip partition pop remove replace reverse rfind rjust rpartition rsplit rstrip "
    "setdefault split splitlines startswith strip update upper values zfill bit_length"
).split()
OWN_NAMES_OUT = {
    name for kind in (str, int, list, dict, set, frozenset, bytes, bytearray) for name in vars(kind)
} | set("register mro elements open input version_info with_traceback add_note args format format_map".split())
WORDS_OUT = (
    r"\b(type|typing|typing_extensions|enum|Enum|IntEnum|StrEnum|Flag|IntFlag|Generic|Protocol|ABC|ABCMeta|namedtuple|"
    r"NamedTuple|TypedDict|TYPE_CHECKING|abstractmethod)\b|dataclass|overload|contextmanager"
)


def bound_names(tree):
    names = set()
    for node in ast.walk(tree):
        if isinstance(node, ast.Name) and isinstance(node.ctx, ast.Store):
            names.add(node.id)
        elif isinstance(node, (ast.FunctionDef, ast.ClassDef)):
            names.add(node.name)
        elif isinstance(node, ast.arg):
            names.add(node.arg)
        elif isinstance(node, ast.alias):
            names.add(node.asname or node.name)
    return names


def trees():
    return [(path, ast.parse(path.read_text(encoding="ascii"), path.name)) for path in FILES]


class Form(unittest.TestCase):
    def test_there_are_files(self):
        self.assertIn(PACKAGE / "board.py", FILES)
        self.assertIn(PACKAGE / "__init__.py", FILES)

    def test_nothing_else_lies_in_the_package(self):
        others = [path for path in PACKAGE.rglob("*") if "__pycache__" not in path.parts and path not in FILES]
        self.assertEqual([], others)

    def test_signs_and_size(self):
        for path in FILES:
            text = path.read_text(encoding="ascii")
            with self.subTest(file=path.name):
                self.assertIsNone(re.search(r"[^ -~\n]", text))
                self.assertIsNone(re.search(WORDS_OUT, text))
                self.assertLessEqual(text.count("\n"), 400)
                self.assertLessEqual(max(map(len, text.split("\n"))), 120)
                self.assertRegex(path.name, r"^([a-z][a-z0-9_]*|__init__|__main__)\.py$")

    def test_nodes(self):
        for path, tree in trees():
            with self.subTest(file=path.name):
                self.assertEqual(set(), {type(node).__name__ for node in ast.walk(tree)} - set(NODES))

    def test_functions_are_short_and_plain(self):
        for path, tree in trees():
            with self.subTest(file=path.name):
                for node in ast.walk(tree):
                    if isinstance(node, ast.FunctionDef):
                        self.assertLessEqual(node.end_lineno - node.lineno + 1, 40, node.name)
                        self.assertEqual([], node.decorator_list)
                        self.assertIsNone(node.args.vararg or node.args.kwarg or node.returns)
                        self.assertEqual([], node.args.kwonlyargs + node.args.posonlyargs)
                        self.assertEqual([], [arg for arg in node.args.args if arg.annotation])

    def test_texts_by_themselves_stand_at_the_top_alone(self):
        for path, tree in trees():
            with self.subTest(file=path.name):
                self.assertIsNotNone(ast.get_docstring(tree))
                alone = [node for node in ast.walk(tree) if isinstance(node, ast.Expr)]
                self.assertEqual([tree.body[0]], [node for node in alone if not isinstance(node.value, ast.Call)])

    def test_the_top_of_a_file(self):
        allowed = (ast.ImportFrom, ast.FunctionDef, ast.ClassDef, ast.Assign)
        for path, tree in trees():
            with self.subTest(file=path.name):
                self.assertEqual([], [node for node in tree.body[1:] if not isinstance(node, allowed)])
                names = [node.targets[0].id for node in tree.body if isinstance(node, ast.Assign)]
                names += [node.name for node in tree.body if isinstance(node, (ast.FunctionDef, ast.ClassDef))]
                names += [alias.name for node in tree.body if isinstance(node, ast.ImportFrom) for alias in node.names]
                self.assertEqual(len(set(names)), len(names))

    def test_imports(self):
        drawn = {}
        for path, tree in trees():
            with self.subTest(file=path.name):
                rows = [node for node in ast.walk(tree) if isinstance(node, ast.ImportFrom)]
                self.assertEqual([], [node for node in rows if node not in tree.body or node.level])
                drawn["oppositions." + path.stem] = [node.module for node in rows]
                for node in rows:
                    self.assertTrue(node.module.startswith("oppositions."))
                    source = ast.parse((PACKAGE / (node.module.split(".")[1] + ".py")).read_text())
                    rest = [row for row in source.body if not isinstance(row, ast.ImportFrom)]
                    self.assertEqual(set(), {alias.name for alias in node.names} - bound_names(ast.Module(rest, [])))
        while drawn:
            free = [name for name, modules in drawn.items() if not set(modules) & set(drawn)]
            self.assertNotEqual([], free, "files draw from one another")
            for name in free:
                del drawn[name]

    def test_names(self):
        for path, tree in trees():
            with self.subTest(file=path.name):
                bound = bound_names(tree)
                self.assertEqual(set(), bound & set(dir(builtins)))
                for name in bound - {"__init__"}:
                    self.assertRegex(name, r"^[A-Za-z][A-Za-z0-9_]*$")
                read = {node.id for node in ast.walk(tree) if isinstance(node, ast.Name)}
                self.assertEqual(set(), read - bound - set(BUILT_IN))

    def test_classes(self):
        methods, kept = set(), set()
        for path, tree in trees():
            with self.subTest(file=path.name):
                for node in [row for row in ast.walk(tree) if isinstance(row, ast.ClassDef)]:
                    self.assertIn(node, tree.body)
                    own = [row.name for row in node.body if isinstance(row, ast.FunctionDef)]
                    self.assertEqual(len(node.body), len(own))
                    self.assertEqual(len(set(own)), len(own))
                    methods |= set(own)
                values = [node for node in ast.walk(tree) if isinstance(node, ast.Attribute)]
                kept |= {node.attr for node in values if isinstance(node.ctx, ast.Store)}
        self.assertEqual(set(), methods & kept)
        self.assertEqual({"__init__"}, (methods | kept) & OWN_NAMES_OUT)
        for path, tree in trees():
            with self.subTest(file=path.name):
                read = {node.attr for node in ast.walk(tree) if isinstance(node, ast.Attribute)}
                self.assertEqual(set(), read - methods - kept - set(METHODS))

    def test_one_target_and_plain_numbers(self):
        for path, tree in trees():
            with self.subTest(file=path.name):
                for node in ast.walk(tree):
                    if isinstance(node, ast.Assign):
                        self.assertEqual(1, len(node.targets))
                        self.assertNotIsInstance(node.targets[0], (ast.Tuple, ast.List))
                    if isinstance(node, ast.Constant):
                        self.assertIn(type(node.value), (int, str, bool, type(None)))
                    if isinstance(node, (ast.For, ast.While)):
                        self.assertEqual([], node.orelse)
                    if isinstance(node, ast.ListComp):
                        self.assertEqual(1, len(node.generators))
                        self.assertLessEqual(len(node.generators[0].ifs), 1)
                    if isinstance(node, ast.BinOp) and isinstance(node.op, ast.Pow):
                        self.assertIsInstance(node.right, ast.Constant)


if __name__ == "__main__":
    unittest.main()
