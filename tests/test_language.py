"""The package keeps to the plain part of Python that the project allows, as far as a look at its files can tell."""

import ast
import builtins
import pathlib
import re
import unittest

PACKAGE = pathlib.Path(__file__).resolve().parent.parent / "truckloads"

ALLOWED_NODES = """
Module Expr Import ImportFrom alias FunctionDef ClassDef arguments arg Lambda Assign AugAssign AnnAssign
If While For Return Break Continue Pass Raise Try ExceptHandler
Constant Name Attribute Subscript Slice Load Store List Tuple Dict Set ListComp comprehension Call keyword
BinOp UnaryOp BoolOp Compare IfExp JoinedStr FormattedValue
Add Sub Mult FloorDiv Mod Pow BitAnd BitOr BitXor LShift RShift Invert Not USub UAdd And Or
Eq NotEq Lt LtE Gt GtE Is IsNot In NotIn
""".split()

ALLOWED_BUILTINS = """
len range enumerate zip min max sum abs sorted reversed int str bool list tuple dict set frozenset isinstance
ord repr any all divmod Exception ValueError TypeError KeyError IndexError LookupError ZeroDivisionError
ArithmeticError OverflowError RuntimeError NotImplementedError AttributeError StopIteration
""".split()

ALLOWED_METHODS = """
append clear copy count endswith extend find get index insert isalnum isalpha isdigit islower isspace isupper
items join keys ljust lower lstrip partition pop remove replace reverse rfind rjust rpartition rsplit rstrip
setdefault split splitlines startswith strip update upper values zfill bit_length
""".split()

BANNED_WORDS = """
type typing typing_extensions enum Enum IntEnum StrEnum Flag IntFlag Generic Protocol ABC ABCMeta namedtuple
NamedTuple TypedDict TYPE_CHECKING abstractmethod register mro elements open input version_info
""".split()


def files():
    return sorted(PACKAGE.glob("*.py"))


def nodes(file):
    return list(ast.walk(ast.parse(file.read_text("ascii"))))


def bound_names(tree_nodes):
    """Each name that the file binds itself, imports aside."""
    names = []
    for node in tree_nodes:
        if isinstance(node, (ast.FunctionDef, ast.ClassDef)):
            names.append(node.name)
        elif isinstance(node, ast.arg):
            names.append(node.arg)
        elif isinstance(node, (ast.Name, ast.Attribute)) and isinstance(node.ctx, ast.Store):
            names.append(node.id if isinstance(node, ast.Name) else node.attr)
    return names


class Language(unittest.TestCase):
    def test_nothing_but_plain_files_lies_in_the_package(self):
        found = [path.name for path in PACKAGE.iterdir() if path.name != "__pycache__"]
        self.assertIn("__init__.py", found)
        self.assertIn("trips.py", found)
        for name in found:
            self.assertRegex(name, r"\A[a-z][a-z0-9_]*\.py\Z|\A__init__\.py\Z")

    def test_sizes_and_signs(self):
        for file in files():
            text = file.read_text("ascii")
            self.assertRegex(text, r"\A[ -~\n]*\Z", file.name)
            rows = text.splitlines()
            self.assertLessEqual(len(rows), 399, file.name)
            self.assertLessEqual(max(len(row) for row in rows), 120, file.name)
            for node in nodes(file):
                if isinstance(node, ast.FunctionDef):
                    self.assertLessEqual(node.end_lineno - node.lineno + 1, 40, node.name)

    def test_words_that_stand_nowhere(self):
        for file in files():
            words = re.findall(r"[A-Za-z_]+", file.read_text("ascii"))
            self.assertEqual(sorted(set(words) & set(BANNED_WORDS)), [], file.name)

    def test_only_the_allowed_forms(self):
        for file in files():
            kinds = {type(node).__name__ for node in nodes(file)}
            self.assertEqual(sorted(kinds - set(ALLOWED_NODES)), [], file.name)
            for node in nodes(file):
                if isinstance(node, (ast.FunctionDef, ast.ClassDef)):
                    self.assertEqual(node.decorator_list, [])
                if isinstance(node, (ast.For, ast.While)):
                    self.assertEqual(node.orelse, [])
                if isinstance(node, ast.Assign):
                    self.assertEqual(len(node.targets), 1)
                if isinstance(node, ast.ListComp):
                    self.assertEqual(len(node.generators), 1)
                    self.assertLessEqual(len(node.generators[0].ifs), 1)
                if isinstance(node, ast.Constant):
                    self.assertNotIsInstance(node.value, (float, bytes, complex))

    def test_imports_are_the_packages_own(self):
        for file in files():
            for node in nodes(file):
                self.assertNotIsInstance(node, ast.Import)
                if isinstance(node, ast.ImportFrom):
                    self.assertEqual(node.level, 0)
                    self.assertRegex(node.module, r"\Atruckloads\.[a-z_]+\Z")
                    self.assertEqual([name.asname for name in node.names], [None] * len(node.names))

    def test_names(self):
        taken = set(dir(builtins))
        for file in files():
            for name in bound_names(nodes(file)):
                self.assertRegex(name, r"\A([A-Za-z][A-Za-z0-9_]*|__init__)\Z", file.name)
                self.assertNotIn(name, taken, file.name)

    def test_no_other_built_in_names_and_methods(self):
        own = set()
        for file in files():
            own |= set(bound_names(nodes(file)))
        for file in files():
            for node in nodes(file):
                if isinstance(node, ast.Name) and node.id not in own and hasattr(builtins, node.id):
                    self.assertIn(node.id, ALLOWED_BUILTINS, file.name)
                if isinstance(node, ast.Attribute) and node.attr not in own:
                    self.assertIn(node.attr, ALLOWED_METHODS, file.name)

    def test_no_name_is_a_method_and_a_value(self):
        methods = set()
        values = set()
        for file in files():
            for node in nodes(file):
                if isinstance(node, ast.ClassDef):
                    methods |= {part.name for part in node.body if isinstance(part, ast.FunctionDef)}
                if isinstance(node, ast.Attribute) and isinstance(node.ctx, ast.Store):
                    values.add(node.attr)
        self.assertEqual(methods & values, set())

    def test_the_interface_is_written_where_its_name_tells(self):
        for file in files():
            tops = ast.parse(file.read_text("ascii")).body
            found = [node for node in tops if isinstance(node, ast.FunctionDef) and node.name == "answers"]
            self.assertEqual(len(found), 1 if file.name == "trips.py" else 0, file.name)
            for node in found:
                self.assertEqual([argument.arg for argument in node.args.args], ["calls"])
                self.assertEqual(node.args.defaults, [])
