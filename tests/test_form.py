"""The form of the package's code: the rules of the language part that can be seen file by file."""

import ast
import builtins
import os
import re
import unittest

FOLDER = os.path.join(os.path.dirname(os.path.dirname(os.path.abspath(__file__))), "yardkeep")
ERRORS = """Exception ValueError TypeError KeyError IndexError LookupError ZeroDivisionError ArithmeticError
OverflowError RuntimeError NotImplementedError AttributeError StopIteration""".split()
OWN_OF_PYTHON = ERRORS + """len range enumerate zip min max sum abs sorted reversed int str bool list tuple dict set
frozenset isinstance ord repr any all divmod""".split()
METHODS = """append clear copy count endswith extend find get index insert isalnum isalpha isdigit islower isspace
isupper items join keys ljust lower lstrip partition pop remove replace reverse rfind rjust rpartition rsplit rstrip
setdefault split splitlines startswith strip update upper values zfill bit_length __init__""".split()
NODES = """Module FunctionDef ClassDef Return Assign AugAssign For While If Raise Try ImportFrom Expr Pass Break
Continue BoolOp BinOp UnaryOp Lambda IfExp Dict Set ListComp Compare Call FormattedValue JoinedStr Constant Attribute
Subscript Name List Tuple Slice Load Store And Or Add Sub Mult FloorDiv Mod Pow LShift RShift BitOr BitXor BitAnd
Invert Not UAdd USub Eq NotEq Lt LtE Gt GtE Is IsNot In NotIn comprehension ExceptHandler arguments arg keyword
alias""".split()
UNUSED_WORDS = """type typing typing_extensions enum Enum IntEnum StrEnum Flag IntFlag Generic Protocol ABC ABCMeta
namedtuple NamedTuple TypedDict TYPE_CHECKING abstractmethod""".split()
UNUSED_NAMES = "register mro elements open input version_info with_traceback add_note format format_map".split()
TWO_UNDERSCORES = ["__init__", "__eq__", "__repr__", "__str__", "__len__", "__all__", "__version__"]


def files():
    return sorted([name for name in os.listdir(FOLDER) if name != "__pycache__"])


def text_of(name):
    with open(os.path.join(FOLDER, name), encoding="utf-8", newline="") as handle:
        return handle.read()


def trees():
    return {name: ast.parse(text_of(name)) for name in files()}


def nodes(tree, *kinds):
    return [node for node in ast.walk(tree) if isinstance(node, kinds)]


def bound_names(tree):
    names = [node.id for node in nodes(tree, ast.Name) if isinstance(node.ctx, ast.Store)]
    names += [node.arg for node in nodes(tree, ast.arg)]
    names += [node.name for node in nodes(tree, ast.ExceptHandler) if node.name]
    return names


def methods(tree):
    return [(place.name, node.name) for place in nodes(tree, ast.ClassDef) for node in place.body
            if isinstance(node, ast.FunctionDef)]


def fields(tree):
    return [node.attr for node in nodes(tree, ast.Attribute) if isinstance(node.ctx, ast.Store)]


class Files(unittest.TestCase):
    def test_plain_files_alone(self):
        for name in files():
            self.assertRegex(name, r"\A[a-z0-9_]+\.py\Z")
            self.assertFalse(name.startswith("test") or name[:-3] in dir(builtins))

    def test_the_package_file_has_its_first_words_alone(self):
        tree = trees()["__init__.py"]
        self.assertEqual(len(tree.body), 1)
        self.assertIsInstance(ast.get_docstring(tree), str)

    def test_signs_and_sizes(self):
        for name in files():
            text = text_of(name)
            self.assertRegex(text, r"\A[ -~\n]*\Z", name)
            self.assertLessEqual(len(text.splitlines()), 400, name)
            self.assertLessEqual(max([len(row) for row in text.splitlines()]), 120, name)
            for node in nodes(ast.parse(text), ast.FunctionDef):
                self.assertLessEqual(node.end_lineno - node.lineno + 1, 40, (name, node.name))

    def test_words(self):
        for name in files():
            words = re.findall(r"[A-Za-z0-9_]+", text_of(name))
            self.assertEqual([word for word in words if word in UNUSED_WORDS], [], name)
            self.assertIsNone(re.search("dataclass|overload|contextmanager", text_of(name)), name)


class Code(unittest.TestCase):
    def test_statements_and_expressions(self):
        for name, tree in trees().items():
            for node in ast.walk(tree):
                self.assertIn(node.__class__.__name__, NODES, (name, getattr(node, "lineno", 0)))
            for node in nodes(tree, ast.Assign):
                self.assertEqual(len(node.targets), 1, (name, node.lineno))
            for node in nodes(tree, ast.For, ast.While):
                self.assertEqual(node.orelse, [], (name, node.lineno))
            for node in nodes(tree, ast.ListComp):
                self.assertEqual(len(node.generators), 1, (name, node.lineno))
            for node in nodes(tree, ast.FunctionDef, ast.ClassDef):
                self.assertEqual(node.decorator_list, [], (name, node.lineno))
            for node in nodes(tree, ast.Constant):
                self.assertTrue(node.value is None or isinstance(node.value, (int, str)), (name, node.lineno))
                self.assertNotIn("%", str(node.value), (name, node.lineno))

    def test_names(self):
        for name, tree in trees().items():
            tops = [node.name for node in nodes(tree, ast.ClassDef)] + [node.name for node in nodes(tree, ast.alias)]
            for word in bound_names(tree):
                self.assertFalse(word.startswith("_") or word in dir(builtins) or word in tops, (name, word))
            for node in nodes(tree, ast.FunctionDef, ast.ClassDef):
                self.assertTrue(not node.name.startswith("_") or node.name in TWO_UNDERSCORES, (name, node.name))
            used = [node.id for node in nodes(tree, ast.Name)] + [node.attr for node in nodes(tree, ast.Attribute)]
            self.assertEqual([word for word in used if word in UNUSED_NAMES], [], name)
            for node in nodes(tree, ast.Name):
                if node.id in dir(builtins):
                    self.assertIn(node.id, OWN_OF_PYTHON, (name, node.lineno))

    def test_methods_that_are_called(self):
        own = [method for tree in trees().values() for place, method in methods(tree)]
        for name, tree in trees().items():
            for node in nodes(tree, ast.Call):
                if isinstance(node.func, ast.Attribute):
                    self.assertIn(node.func.attr, METHODS + own, (name, node.lineno))

    def test_one_lambda_a_line(self):
        for name, tree in trees().items():
            rows = [node.lineno for node in nodes(tree, ast.Lambda)]
            self.assertEqual(len(rows), len(set(rows)), name)

    def test_no_name_is_a_method_here_and_a_value_there(self):
        own = [method for tree in trees().values() for place, method in methods(tree)]
        values = [field for tree in trees().values() for field in fields(tree)]
        self.assertEqual(sorted(set(own) & set(values)), [])
        for name, tree in trees().items():
            self.assertEqual(len(methods(tree)), len(set(methods(tree))), name)


class Imports(unittest.TestCase):
    def drawn(self):
        found = {}
        for name, tree in trees().items():
            found["yardkeep." + name[:-3]] = [node.module for node in nodes(tree, ast.ImportFrom)]
        return found

    def test_from_the_file_that_defines_the_name(self):
        all_trees = trees()
        for name, tree in all_trees.items():
            for node in nodes(tree, ast.ImportFrom):
                self.assertEqual((node.level, node.module.split(".")[0]), (0, "yardkeep"), name)
                there = all_trees[node.module.split(".")[1] + ".py"].body
                defined = [row.name for row in there if isinstance(row, (ast.FunctionDef, ast.ClassDef))]
                defined += [row.targets[0].id for row in there if isinstance(row, ast.Assign)]
                for alias in node.names:
                    self.assertIn(alias.name, defined, (name, node.lineno))

    def test_no_two_files_draw_from_one_another(self):
        left = self.drawn()
        while left:
            free = [name for name in left if not [other for other in left[name] if other in left]]
            self.assertNotEqual(free, [], sorted(left))
            left = {name: left[name] for name in left if name not in free}
