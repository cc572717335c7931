"""The package's own files keep to the small part of Python that the program is written in.

Only what is plainly to be seen in the code is looked at; L1, L2, .. are the rules' numbers.
"""

import ast
import builtins
import re
import unittest
from pathlib import Path

PACKAGE = Path(__file__).resolve().parent.parent / "eightsides"

NODES = set("""
    Module FunctionDef ClassDef Lambda arguments arg keyword Return Assign AugAssign For While If Raise Try
    ExceptHandler ImportFrom alias Expr Pass Break Continue BoolOp BinOp UnaryOp IfExp Dict Set ListComp
    comprehension Compare Call FormattedValue JoinedStr Constant Attribute Subscript Name List Tuple Slice
    Load Store And Or Add Sub Mult FloorDiv Mod Pow LShift RShift BitOr BitXor BitAnd Invert Not UAdd USub
    Eq NotEq Lt LtE Gt GtE Is IsNot In NotIn
""".split())

OWN_NAMES = set("""
    len range enumerate zip min max sum abs sorted reversed int str bool list tuple dict set frozenset
    isinstance ord repr any all divmod Exception ValueError TypeError KeyError IndexError LookupError
    ZeroDivisionError ArithmeticError OverflowError RuntimeError NotImplementedError AttributeError
    StopIteration
""".split())

METHODS = set("""
    append clear copy count endswith extend find get index insert isalnum isalpha isdigit islower isspace
    isupper items join keys ljust lower lstrip partition pop remove replace reverse rfind rjust rpartition
    rsplit rstrip setdefault split splitlines startswith strip update upper values zfill bit_length
""".split())

UNDERSCORED = set("__init__ __eq__ __repr__ __str__ __len__".split())

UNSAID = re.compile(
    r"\b(type|typing|typing_extensions|enum|Enum|IntEnum|StrEnum|Flag|IntFlag|Generic|Protocol|ABC|ABCMeta"
    r"|namedtuple|NamedTuple|TypedDict|TYPE_CHECKING|abstractmethod)\b|dataclass|overload|contextmanager"
)

UNUSED = set("""
    register mro elements open input version_info with_traceback add_note attrgetter breakpoint builtins
    compile copyright credits delattr dir eval exec exit gc getattr globals hasattr help id importlib license
    locals methodcaller os quit setattr super type vars sys
""".split())


def trees():
    return [(path, ast.parse(path.read_text("utf-8"))) for path in sorted(PACKAGE.glob("*.py"))]


def places():
    """Every piece of the package's code, with the file that it stands in."""
    return [(path, node) for path, tree in trees() for node in ast.walk(tree)]


def functions():
    return [(path, node) for path, node in places() if isinstance(node, ast.FunctionDef)]


def own_members():
    """The names of the package's methods, and of the values that its objects have."""
    return set([node.name for path, node in functions()] + stored_values())


def stored_values():
    return [node.attr for path, node in places() if isinstance(node, ast.Attribute) and isinstance(node.ctx, ast.Store)]


def drawn_from(tree):
    return [node.module for node in tree.body if isinstance(node, ast.ImportFrom)]


def is_text(node):
    return isinstance(node, ast.Expr) and isinstance(node.value, ast.Constant) and isinstance(node.value.value, str)


class TestLanguage(unittest.TestCase):
    def test_files(self):  # L1, L14
        self.assertTrue((PACKAGE / "__init__.py").is_file())
        for path in PACKAGE.iterdir():
            if path.name != "__pycache__":
                self.assertRegex(path.name, r"^([a-z][a-z0-9_]*|__init__)\.py$")
                self.assertFalse(path.name.startswith("test"), path)
                self.assertNotIn(path.stem, dir(builtins))

    def test_signs_and_sizes(self):  # L10, L14
        for path in PACKAGE.glob("*.py"):
            text = path.read_bytes().decode("ascii")
            self.assertRegex(text, r"^[ -~\n]*$", path)
            lines = text.split("\n")
            self.assertLessEqual(len(lines), 400, path)
            self.assertLessEqual(max([len(line) for line in lines]), 120, path)
        for path, node in functions():
            self.assertLessEqual(node.end_lineno - node.lineno + 1, 40, (path, node.name))

    def test_words_that_stand_nowhere(self):  # L17
        for path in PACKAGE.glob("*.py"):
            self.assertIsNone(UNSAID.search(path.read_text("utf-8")), path)

    def test_top_of_each_file(self):  # L2, L3, L15, L16
        for path, tree in trees():
            bound = []
            for place, node in enumerate(tree.body):
                if place == 0:
                    self.assertTrue(is_text(node), path)
                elif isinstance(node, ast.ImportFrom):
                    bound.extend([alias.asname or alias.name for alias in node.names])
                elif isinstance(node, ast.Assign):
                    self.assertIsInstance(node.targets[0], ast.Name, path)
                    bound.append(node.targets[0].id)
                else:
                    self.assertIsInstance(node, (ast.FunctionDef, ast.ClassDef), path)
                    bound.append(node.name)
            self.assertEqual(len(bound), len(set(bound)), path)

    def test_imports(self):  # L2, L16
        defined = {}
        for path, tree in trees():
            named = [node.name for node in tree.body if isinstance(node, (ast.FunctionDef, ast.ClassDef))]
            named.extend([node.targets[0].id for node in tree.body if isinstance(node, ast.Assign)])
            defined["eightsides." + path.stem] = named
        for path, node in places():
            if isinstance(node, ast.ImportFrom):
                self.assertEqual(node.level, 0, path)
                for alias in node.names:
                    self.assertIn(alias.name, defined[node.module], path)

    def test_no_two_files_draw_from_one_another(self):  # L16
        waiting = {"eightsides." + path.stem: drawn_from(tree) for path, tree in trees()}
        while waiting:
            free = [name for name, drawn in waiting.items() if not set(drawn) & set(waiting)]
            self.assertTrue(free, waiting)
            for name in free:
                del waiting[name]

    def test_pieces(self):  # L4 to L7, L20, L21, L27
        for path, node in places():
            where = (path.name, getattr(node, "lineno", 0))
            self.assertIn(node.__class__.__name__, NODES, where)
            if isinstance(node, ast.Assign):
                self.assertEqual(len(node.targets), 1, where)
                self.assertIsInstance(node.targets[0], (ast.Name, ast.Subscript, ast.Attribute), where)
            elif isinstance(node, (ast.For, ast.While)):
                self.assertEqual(node.orelse, [], where)
            elif isinstance(node, ast.Try):
                self.assertEqual(node.finalbody, [], where)
            elif isinstance(node, ast.Expr):
                self.assertTrue(is_text(node) or isinstance(node.value, ast.Call), where)
            elif isinstance(node, ast.Constant):
                self.assertIn(node.value.__class__, (int, str, bool, None.__class__), where)
                self.assertNotIn("%", str(node.value), where)
            elif isinstance(node, ast.ListComp):
                self.assertEqual(len(node.generators), 1, where)
                self.assertLessEqual(len(node.generators[0].ifs), 1, where)
            elif isinstance(node, ast.arg):
                self.assertIsNone(node.annotation, where)

    def test_is_stands_beside_plain_values(self):  # L20
        for path, node in places():
            if isinstance(node, ast.Compare):
                for sign, right in zip(node.ops, node.comparators):
                    if isinstance(sign, (ast.Is, ast.IsNot)):
                        self.assertIn(ast.unparse(right), ("None", "True", "False"), (path, node.lineno))

    def test_functions_and_classes(self):  # L4, L5, L21
        for path, node in functions():
            where = (path, node.name)
            self.assertEqual(node.decorator_list, [], where)
            self.assertIsNone(node.returns, where)
            taken = node.args
            self.assertEqual((taken.vararg, taken.kwarg, taken.kwonlyargs, taken.posonlyargs), (None, None, [], []), where)
        for path, node in places():
            if isinstance(node, ast.ClassDef):
                self.assertEqual((node.decorator_list, node.keywords), ([], []), node.name)
                self.assertLessEqual(len(node.bases), 1, node.name)
                for part in node.body:
                    self.assertTrue(isinstance(part, (ast.FunctionDef, ast.Pass)) or is_text(part), node.name)

    def test_no_name_is_a_method_here_and_a_value_there(self):  # L18
        classes = [node for path, node in places() if isinstance(node, ast.ClassDef)]
        self.assertTrue(classes)
        for node in classes:
            methods = [part.name for part in node.body if isinstance(part, ast.FunctionDef)]
            self.assertEqual(len(methods), len(set(methods)), node.name)
            self.assertEqual(set(methods) & set(stored_values()), set(), node.name)

    def test_names(self):  # L8, L12, L15, L17
        for path, node in places():
            if isinstance(node, ast.Name):
                self.check_name(path, node.id, not isinstance(node.ctx, ast.Load))
            elif isinstance(node, ast.arg):
                self.check_name(path, node.arg, True)
            elif isinstance(node, (ast.FunctionDef, ast.ClassDef)) and node.name not in UNDERSCORED:
                self.assertRegex(node.name, r"^[A-Za-z]", path)

    def test_parameters_and_locals(self):  # L15
        for path, tree in trees():
            kept = [alias.asname or alias.name for node in tree.body if isinstance(node, ast.ImportFrom) for alias in node.names]
            kept.extend([node.name for node in tree.body if isinstance(node, ast.ClassDef)])
            for node in ast.walk(tree):
                if isinstance(node, ast.arg):
                    self.assertNotIn(node.arg, kept, path)
                elif isinstance(node, ast.Name) and not isinstance(node.ctx, ast.Load):
                    self.assertNotIn(node.id, kept, path)

    def check_name(self, path, name, is_bound):
        self.assertRegex(name, r"^[A-Za-z][A-Za-z0-9_]*$", path)
        self.assertNotIn(name, UNUSED, path)
        if name in dir(builtins):
            self.assertFalse(is_bound, (path, name))
            self.assertIn(name, OWN_NAMES, path)

    def test_methods(self):  # L8, L25, L26
        members = own_members()
        for path, node in places():
            if isinstance(node, ast.Attribute):
                self.assertIn(node.attr, METHODS | members, (path, node.lineno))
                self.assertNotIn(node.attr, ("format", "format_map", "mro"), (path, node.lineno))


if __name__ == "__main__":
    unittest.main()
