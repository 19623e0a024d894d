"""The rules of ../shared/LANGUAGE.md that a walk over the package's files can see at once."""

import ast
import builtins
import pathlib
import re
import unittest

PACKAGE = pathlib.Path(__file__).resolve().parent.parent / "tagmend"
FILES = sorted(path for path in PACKAGE.rglob("*") if "__pycache__" not in path.parts)

NODES = set("""
    Module FunctionDef ClassDef arguments arg Assign AugAssign If While For Return Break Continue Pass Raise Try
    ExceptHandler Expr ImportFrom alias Name Load Store Constant List Tuple Dict Set BinOp Add Sub Mult FloorDiv Mod Pow
    BitOr BitAnd BitXor LShift RShift UnaryOp Not USub UAdd Invert BoolOp And Or Compare Eq NotEq Lt LtE Gt GtE Is IsNot
    In NotIn IfExp Call keyword Attribute Subscript Slice ListComp comprehension JoinedStr FormattedValue Lambda
""".split())
BUILT_IN = set("""
    len range enumerate zip min max sum abs sorted reversed int str bool list tuple dict set frozenset isinstance ord repr
    any all divmod Exception ValueError TypeError KeyError IndexError LookupError ZeroDivisionError ArithmeticError
    OverflowError RuntimeError NotImplementedError AttributeError StopIteration
""".split())
METHODS_OF_CLASSES = {"__init__", "__eq__", "__repr__", "__str__", "__len__"}
WORDS = re.compile(
    r"\b(type|typing|typing_extensions|enum|Enum|IntEnum|StrEnum|Flag|IntFlag|Generic|Protocol|ABC|ABCMeta|namedtuple"
    r"|NamedTuple|TypedDict|TYPE_CHECKING|abstractmethod)\b|dataclass|overload|contextmanager"
)
BARRED_NAMES = set("register mro elements open input version_info with_traceback add_note format format_map".split())


def nodes_of(path):
    return list(ast.walk(ast.parse(path.read_text(encoding="utf-8"))))


class Form(unittest.TestCase):
    def test_files(self):
        self.assertIn(PACKAGE / "__init__.py", FILES)
        for path in FILES:
            self.assertRegex(path.name, r"\A(__init__|[a-z][a-z0-9_]*)\.py\Z")

    def test_signs_and_sizes(self):
        for path in FILES:
            text = path.read_bytes().decode("utf-8")
            lines = text.split("\n")
            self.assertRegex(text, r"\A[ -~\n]*\Z", path)
            self.assertLessEqual(len(lines), 400, path)
            self.assertLessEqual(max(len(line) for line in lines), 120, path)
            self.assertIsNone(WORDS.search(text), path)

    def test_nodes(self):
        for path in FILES:
            for node in nodes_of(path):
                where = (path.name, getattr(node, "lineno", 0))
                self.assertIn(node.__class__.__name__, NODES, where)
                if isinstance(node, ast.Assign):
                    self.assertEqual([target.__class__.__name__ for target in node.targets if
                                      not isinstance(target, (ast.Name, ast.Attribute, ast.Subscript))], [], where)
                    self.assertEqual(len(node.targets), 1, where)
                if isinstance(node, (ast.For, ast.While)):
                    self.assertEqual(node.orelse, [], where)
                if isinstance(node, ast.Try):
                    self.assertEqual(node.finalbody, [], where)
                if isinstance(node, ast.ListComp):
                    self.assertEqual(len(node.generators), 1, where)
                    self.assertLessEqual(len(node.generators[0].ifs), 1, where)
                if isinstance(node, ast.Constant):
                    self.assertIsInstance(node.value, (int, str, bool, type(None)), where)

    def test_functions(self):
        for path in FILES:
            for node in nodes_of(path):
                if isinstance(node, ast.FunctionDef):
                    where = (path.name, node.name)
                    taken = node.args
                    self.assertLessEqual(node.end_lineno - node.lineno + 1, 40, where)
                    self.assertEqual(node.decorator_list, [], where)
                    self.assertEqual((taken.vararg, taken.kwarg, taken.kwonlyargs, taken.posonlyargs),
                                     (None, None, [], []), where)

    def test_names(self):
        for path in FILES:
            for node in nodes_of(path):
                for name in names_in(node):
                    where = (path.name, name)
                    self.assertNotIn(name, BARRED_NAMES, where)
                    self.assertTrue(not name.startswith("_") or name in METHODS_OF_CLASSES, where)
                    if isinstance(node, (ast.Name, ast.arg)) and hasattr(builtins, name):
                        self.assertIn(name, BUILT_IN, where)
                        self.assertIsInstance(node, ast.Name, where)
                        self.assertIsInstance(node.ctx, ast.Load, where)

    def test_imports(self):
        for path in FILES:
            for node in nodes_of(path):
                if isinstance(node, ast.ImportFrom):
                    self.assertEqual(node.level, 0, path)
                    self.assertRegex(node.module, r"\Atagmend\.[a-z_]+\Z")


    def test_imported_from_the_file_that_defines_it(self):
        for path in FILES:
            for node in nodes_of(path):
                if isinstance(node, ast.ImportFrom):
                    defined = names_at_top(PACKAGE / (node.module.split(".")[1] + ".py"))
                    for alias in node.names:
                        self.assertIn(alias.name, defined, path)
                        self.assertIsNone(alias.asname, path)

    def test_no_two_files_draw_from_one_another(self):
        drawn = {path.stem: {node.module.split(".")[1] for node in nodes_of(path) if isinstance(node, ast.ImportFrom)}
                 for path in FILES}
        while drawn:
            free = [name for name in drawn if not drawn[name] & set(drawn)]
            self.assertNotEqual(free, [], drawn)
            drawn = {name: drawn[name] for name in drawn if name not in free}

    def test_locals_bear_no_name_of_a_class_or_an_import(self):
        for path in FILES:
            nodes = nodes_of(path)
            taken = {alias.name for node in nodes if isinstance(node, ast.ImportFrom) for alias in node.names}
            taken.update(node.name for node in nodes if isinstance(node, ast.ClassDef))
            for node in nodes:
                if isinstance(node, ast.arg) or isinstance(node, ast.Name) and isinstance(node.ctx, ast.Store):
                    self.assertNotIn(names_in(node)[0], taken, path)

    def test_no_name_is_a_method_and_a_value(self):
        methods = set()
        values = set()
        for path in FILES:
            for node in nodes_of(path):
                if isinstance(node, ast.ClassDef):
                    methods.update(inner.name for inner in node.body if isinstance(inner, ast.FunctionDef))
                if isinstance(node, ast.Attribute) and isinstance(node.ctx, ast.Store):
                    values.add(node.attr)
        self.assertEqual(methods & values, set())
        self.assertEqual((methods | values) & {name for kind in (str, int, list, dict, set, bytes, tuple) for name in
                                               dir(kind)} - METHODS_OF_CLASSES, set())


def names_at_top(path):
    names = set()
    for node in ast.parse(path.read_text(encoding="utf-8")).body:
        if isinstance(node, (ast.FunctionDef, ast.ClassDef)):
            names.add(node.name)
        if isinstance(node, ast.Assign):
            names.add(node.targets[0].id)
    return names


def names_in(node):
    if isinstance(node, ast.Name):
        return [node.id]
    if isinstance(node, ast.Attribute):
        return [node.attr]
    if isinstance(node, ast.arg):
        return [node.arg]
    if isinstance(node, (ast.FunctionDef, ast.ClassDef)):
        return [node.name]
    return []


if __name__ == "__main__":
    unittest.main()
