"""Whether the program's files keep to the part of Python that it is written in.

Looked at, some of them in part: L1, L2, L4 to L8, L10, L12, L14 to L18, L20, L25 and L27. The others
(L3, L9, L11, L13, L19, L21 to L24, L26 and L28) are left to the eye.
"""

import ast
import builtins
import pathlib
import re
import unittest

FOLDER = pathlib.Path(__file__).resolve().parent.parent / "boxproof"

OWN_NAMES = set(
    "len range enumerate zip min max sum abs sorted reversed int str bool list tuple dict set frozenset isinstance ord "
    "repr any all divmod Exception ValueError TypeError KeyError IndexError LookupError ZeroDivisionError "
    "ArithmeticError OverflowError RuntimeError NotImplementedError AttributeError StopIteration".split()
)
OWN_METHODS = set(
    "append clear copy count endswith extend find get index insert isalnum isalpha isdigit islower isspace isupper "
    "items join keys ljust lower lstrip partition pop remove replace reverse rfind rjust rpartition rsplit rstrip "
    "setdefault split splitlines startswith strip update upper values zfill bit_length".split()
)
NODES = set(
    "Module Import ImportFrom alias FunctionDef arguments arg Lambda ClassDef Assign AugAssign If While For Return Break "
    "Continue Pass Raise Try ExceptHandler Expr Call Constant List Tuple Dict Set BinOp UnaryOp BoolOp Compare IfExp "
    "Attribute Subscript Slice ListComp comprehension JoinedStr FormattedValue Name Load Store keyword "
    "Add Sub Mult FloorDiv Mod Pow BitAnd BitOr BitXor LShift RShift Invert USub UAdd And Or Not "
    "Eq NotEq Lt LtE Gt GtE Is IsNot In NotIn".split()
)
KEPT_OUT = (
    r"\b(type|typing|typing_extensions|enum|Enum|IntEnum|StrEnum|Flag|IntFlag|Generic|Protocol|ABC|ABCMeta|namedtuple|"
    r"NamedTuple|TypedDict|TYPE_CHECKING|abstractmethod)\b|dataclass|overload|contextmanager"
)
NOT_USED = set(
    "register mro elements open input version_info with_traceback add_note attrgetter breakpoint builtins compile "
    "copyright credits delattr dir eval exec exit gc getattr globals hasattr help id importlib license locals "
    "methodcaller os quit setattr super type vars sys format format_map".split()
)
TWO_UNDERSCORES = ("__init__", "__eq__", "__repr__", "__str__", "__len__", "__all__", "__version__")
PLAIN = re.compile("[A-Za-z][A-Za-z0-9_]*")


def sources():
    return sorted(path for path in FOLDER.rglob("*") if path.is_file() and "__pycache__" not in path.parts)


def trees():
    return {path.stem: ast.parse(path.read_text(encoding="utf-8")) for path in sources()}


def bound_names(tree):
    names = []
    for node in ast.walk(tree):
        if isinstance(node, (ast.FunctionDef, ast.ClassDef)):
            names.append(node.name)
        elif isinstance(node, ast.arg):
            names.append(node.arg)
        elif isinstance(node, ast.Name) and isinstance(node.ctx, ast.Store):
            names.append(node.id)
        elif isinstance(node, ast.ExceptHandler) and node.name is not None:
            names.append(node.name)
    return names


def methods_and_values(tree):
    methods, values = set(), set()
    for node in ast.walk(tree):
        if isinstance(node, ast.ClassDef):
            methods.update(part.name for part in node.body if isinstance(part, ast.FunctionDef))
        elif isinstance(node, ast.Attribute) and isinstance(node.ctx, ast.Store):
            values.add(node.attr)
    return methods, values


def drawn_from(tree):
    return [node.module.split(".")[-1] for node in tree.body if isinstance(node, ast.ImportFrom)]


class Files(unittest.TestCase):
    def test_only_plain_files(self):
        self.assertIn("__init__.py", [path.name for path in sources()])
        for path in sources():
            self.assertEqual(path.parent, FOLDER)
            self.assertRegex(path.name, "^([a-z][a-z0-9_]*|__init__|__main__)[.]py$")

    def test_size_and_signs(self):
        for path in sources():
            rows = path.read_text(encoding="utf-8").split("\n")
            self.assertLessEqual(len(rows), 401, path.name)
            for number, row in enumerate(rows, start=1):
                with self.subTest(file=path.name, row=number):
                    self.assertLessEqual(len(row), 120)
                    self.assertIsNone(re.search("[^ -~]", row))
                    self.assertIsNone(re.search(KEPT_OUT, row))


def all_nodes(*kinds):
    """The nodes of these kinds (of all, where none is told), each with the place where it stands."""
    found = []
    for file, tree in trees().items():
        for node in ast.walk(tree):
            if not kinds or isinstance(node, kinds):
                found.append((f"{file}.py:{getattr(node, 'lineno', 0)}", node))
    return found


def beside_is(node):
    """What stands on the two sides of each is and is not of a comparison."""
    sides = [node.left] + node.comparators
    places = [k for k, sign in enumerate(node.ops) if isinstance(sign, (ast.Is, ast.IsNot))]
    return [sides[k:k + 2] for k in places]


def is_none_or_truth(node):
    return isinstance(node, ast.Constant) and (node.value is None or isinstance(node.value, bool))


class Forms(unittest.TestCase):
    def test_nodes(self):
        for place, node in all_nodes():
            self.assertIn(node.__class__.__name__, NODES, place)

    def test_functions(self):
        for place, node in all_nodes(ast.FunctionDef):
            self.assertLessEqual(node.end_lineno - node.lineno + 1, 40, place)
            self.assertEqual(node.decorator_list, [], place)
            others = node.args.vararg or node.args.kwarg or node.args.kwonlyargs or node.args.posonlyargs
            self.assertFalse(others, place)

    def test_classes(self):
        for place, node in all_nodes(ast.ClassDef):
            self.assertLessEqual(len(node.bases), 1, place)
            self.assertEqual(node.keywords + node.decorator_list, [], place)
            for part in node.body:
                self.assertIsInstance(part, (ast.FunctionDef, ast.Pass), place)

    def test_statements(self):
        for place, node in all_nodes(ast.Assign):
            self.assertEqual(len(node.targets), 1, place)
        for place, node in all_nodes(ast.For, ast.While):
            self.assertEqual(node.orelse, [], place)
        for place, node in all_nodes(ast.Try):
            self.assertEqual(node.finalbody, [], place)
        for place, node in all_nodes(ast.ExceptHandler):
            self.assertIsNotNone(node.type, place)

    def test_what_stands_by_itself(self):
        for file, tree in trees().items():
            words = tree.body[0]
            for node in ast.walk(tree):
                if isinstance(node, ast.Expr) and node is not words:
                    self.assertIsInstance(node.value, ast.Call, f"{file}.py:{node.lineno}")

    def test_values(self):
        for place, node in all_nodes(ast.Constant):
            self.assertIn(type(node.value), (int, str, bool, type(None)), place)
            if isinstance(node.value, str):
                self.assertNotIn("%", node.value, place)

    def test_expressions(self):
        for place, node in all_nodes(ast.ListComp):
            self.assertEqual(len(node.generators), 1, place)
            self.assertLessEqual(len(node.generators[0].ifs), 1, place)
        for place, node in all_nodes(ast.FormattedValue):
            self.assertIsInstance(node.value, ast.Name, place)
        for place, node in all_nodes(ast.Compare):
            for two in beside_is(node):
                self.assertTrue(any(is_none_or_truth(one) for one in two), place)


class Names(unittest.TestCase):
    def test_names_that_are_bound(self):
        for file, tree in trees().items():
            for name in bound_names(tree):
                with self.subTest(file=file, name=name):
                    if name not in TWO_UNDERSCORES:
                        self.assertIsNotNone(PLAIN.fullmatch(name))
                        self.assertNotIn(name, NOT_USED)
                        self.assertFalse(hasattr(builtins, name))

    def test_python_names_that_are_used(self):
        for file, tree in trees().items():
            for node in ast.walk(tree):
                if isinstance(node, ast.Name) and hasattr(builtins, node.id):
                    self.assertIn(node.id, OWN_NAMES, file)

    def test_attributes(self):
        methods, values = set(), set()
        for tree in trees().values():
            more_methods, more_values = methods_and_values(tree)
            methods |= more_methods
            values |= more_values
        self.assertEqual(methods & values, set())
        self.assertEqual((methods | values) & NOT_USED, set())
        for file, tree in trees().items():
            for node in ast.walk(tree):
                if isinstance(node, ast.Attribute):
                    self.assertIn(node.attr, OWN_METHODS | methods | values, file)

    def test_a_name_is_bound_once_at_the_top(self):
        for file, tree in trees().items():
            names = []
            for node in tree.body:
                if isinstance(node, ast.ImportFrom):
                    names.extend(one.asname or one.name for one in node.names)
                elif isinstance(node, (ast.FunctionDef, ast.ClassDef)):
                    names.append(node.name)
                elif isinstance(node, ast.Assign):
                    names.append(node.targets[0].id)
            self.assertEqual(len(names), len(set(names)), file)

    def test_no_parameter_or_local_is_called_like_a_class_or_an_import(self):
        for file, tree in trees().items():
            taken = [node.name for node in tree.body if isinstance(node, ast.ClassDef)]
            for node in tree.body:
                if isinstance(node, ast.ImportFrom):
                    taken.extend(one.name for one in node.names)
            for node in ast.walk(tree):
                if isinstance(node, ast.arg):
                    self.assertNotIn(node.arg, taken, file)
                elif isinstance(node, ast.Name) and isinstance(node.ctx, ast.Store):
                    self.assertNotIn(node.id, taken, file)


class Imports(unittest.TestCase):
    def test_rows(self):
        for file, tree in trees().items():
            for node in ast.walk(tree):
                self.assertNotIsInstance(node, ast.Import, file)
                if isinstance(node, ast.ImportFrom):
                    self.assertIn(node, tree.body)
                    self.assertEqual(node.level, 0)
                    self.assertRegex(node.module, "^boxproof[.][a-z0-9_]+$")

    def test_from_the_file_that_defines_the_name(self):
        all_trees = trees()
        for tree in all_trees.values():
            for node in tree.body:
                if isinstance(node, ast.ImportFrom):
                    source = all_trees[node.module.split(".")[-1]]
                    for one in node.names:
                        self.assertIn(one.name, bound_names(source))

    def test_no_two_files_draw_from_one_another(self):
        draws = {file: drawn_from(tree) for file, tree in trees().items()}
        self.assertEqual(draws["__init__"], [])
        while draws:
            ready = [file for file, wanted in draws.items() if not any(one in draws for one in wanted)]
            self.assertNotEqual(ready, [], draws)
            draws = {file: wanted for file, wanted in draws.items() if file not in ready}


if __name__ == "__main__":
    unittest.main()
