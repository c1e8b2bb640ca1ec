"""The package's files keep to those rules of LANGUAGE.md that are checked here: not all; README.md says which."""

import ast
import builtins
import pathlib
import re
import unittest

FOLDER = pathlib.Path(__file__).resolve().parent.parent / "routeboard"
FILES = sorted(FOLDER.rglob("*.py"))

OWN_NAMES = """len range enumerate zip min max sum abs sorted reversed int str bool list tuple dict set frozenset
    isinstance ord repr any all divmod Exception ValueError TypeError KeyError IndexError LookupError
    ZeroDivisionError ArithmeticError OverflowError RuntimeError NotImplementedError AttributeError
    StopIteration""".split()
METHODS = """append clear copy count endswith extend find get index insert isalnum isalpha isdigit islower isspace
    isupper items join keys ljust lower lstrip partition pop remove replace reverse rfind rjust rpartition rsplit
    rstrip setdefault split splitlines startswith strip update upper values zfill bit_length""".split()
DUNDERS = ["__init__", "__eq__", "__repr__", "__str__", "__len__"]
BARRED_WORDS = """type typing typing_extensions enum Enum IntEnum StrEnum Flag IntFlag Generic Protocol ABC ABCMeta
    namedtuple NamedTuple TypedDict TYPE_CHECKING abstractmethod""".split()
BARRED_NAMES = """register mro elements open input version_info with_traceback add_note format format_map attrgetter
    breakpoint compile copyright credits delattr dir eval exec exit gc getattr globals hasattr help id importlib
    license locals methodcaller os quit setattr super vars sys chr print""".split()
NODES = """Module FunctionDef ClassDef Return Assign AugAssign For While If Raise Try ImportFrom Expr Pass Break
    Continue BoolOp BinOp UnaryOp Lambda IfExp Dict ListComp Compare Call JoinedStr FormattedValue Constant Attribute
    Subscript Name List Tuple Set Slice Load Store And Or Add Sub Mult FloorDiv Mod Pow LShift RShift BitOr BitXor
    BitAnd Invert Not UAdd USub Eq NotEq Lt LtE Gt GtE Is IsNot In NotIn comprehension ExceptHandler arguments arg
    keyword alias""".split()


VALUES_LIKE_METHODS = "count index title find get join lower upper split strip copy add".split()
OF_PYTHON = {name for kind in (str, int, list, tuple, dict, set, bytes) for name in dir(kind)} | {"args"}


def each_file():
    for path in FILES:
        text = path.read_text(encoding="utf-8")
        yield path, text, ast.parse(text)


def bound_names(node):
    if isinstance(node, (ast.FunctionDef, ast.ClassDef)):
        return [node.name]
    if isinstance(node, ast.arg):
        return [node.arg]
    if isinstance(node, ast.Name) and isinstance(node.ctx, ast.Store):
        return [node.id]
    if isinstance(node, ast.Attribute):
        return [node.attr]
    return []


def names_of_top(node):
    return bound_names(node.targets[0] if isinstance(node, ast.Assign) else node)


class TheRules(unittest.TestCase):
    def hold_to(self, rule):
        for path, _, tree in each_file():
            for node in ast.walk(tree):
                with self.subTest(file=path.name, line=getattr(node, "lineno", 0)):
                    rule(node)

    def test_there_are_files(self):
        self.assertGreater(len(FILES), 1)

    def test_files_and_signs(self):
        for path in FOLDER.rglob("*"):
            if path.name != "__pycache__" and path.parent.name != "__pycache__":
                self.assertRegex(path.name, r"^[a-z][a-z0-9_]*\.py$|^__init__\.py$|^__main__\.py$")
                self.assertNotIn(path.stem, ["test", "tests", "testing", "site", "conftest"] + BARRED_WORDS)
        for path, text, _ in each_file():
            self.assertRegex(text, r"\A[ -~\n]*\Z", path.name)

    def test_sizes(self):
        for path, text, tree in each_file():
            self.assertLessEqual(len(text.splitlines()), 400, path.name)
            for line in text.splitlines():
                self.assertLessEqual(len(line), 120, path.name)
            for node in ast.walk(tree):
                if isinstance(node, ast.FunctionDef):
                    self.assertLessEqual(node.end_lineno - node.lineno + 1, 40, node.name)

    def test_words_that_stand_nowhere(self):
        for path, text, _ in each_file():
            for word in re.findall(r"\w+", text):
                self.assertNotIn(word, BARRED_WORDS, path.name)
                self.assertNotRegex(word, "dataclass|overload|contextmanager", path.name)

    def test_kinds_of_code(self):
        def rule(node):
            self.assertIn(type(node).__name__, NODES)
        self.hold_to(rule)

    def test_imports(self):
        def rule(node):
            if isinstance(node, ast.ImportFrom):
                self.assertEqual(node.level, 0)
                self.assertRegex(node.module, r"^routeboard\.[a-z_]+$")
                defined = ast.parse((FOLDER / (node.module.split(".")[1] + ".py")).read_text()).body
                names = [name for top in defined for name in names_of_top(top)]
                for drawn in node.names:
                    self.assertIn(drawn.name, names)
                    self.assertIsNone(drawn.asname)
        self.hold_to(rule)

    def test_no_file_draws_from_itself_in_some_steps(self):
        drawn = {path.stem: [node.module.split(".")[1] for node in tree.body if isinstance(node, ast.ImportFrom)]
                 for path, _, tree in each_file()}
        for start in drawn:
            ahead, seen = list(drawn[start]), []
            while ahead:
                at = ahead.pop()
                self.assertNotEqual(at, start)
                if at not in seen:
                    seen.append(at)
                    ahead.extend(drawn[at])

    def test_tops_of_modules(self):
        for path, _, tree in each_file():
            self.assertIsNotNone(ast.get_docstring(tree), path.name)
            names = [name for node in tree.body for name in names_of_top(node)]
            self.assertEqual(len(names), len(set(names)), path.name)
            for node in tree.body[1:]:
                self.assertIsInstance(node, (ast.ImportFrom, ast.FunctionDef, ast.ClassDef, ast.Assign))
                if isinstance(node, ast.Assign):
                    for part in ast.walk(node.value):
                        self.assertIsInstance(part, (ast.Constant, ast.Tuple, ast.List, ast.Dict, ast.Load, ast.Name))

    def test_functions(self):
        def rule(node):
            if isinstance(node, ast.FunctionDef):
                self.assertEqual(node.decorator_list, [])
                self.assertIsNone(node.args.vararg or node.args.kwarg or node.returns)
                self.assertEqual(node.args.kwonlyargs + node.args.posonlyargs, [])
        self.hold_to(rule)

    def test_classes(self):
        def rule(node):
            if isinstance(node, ast.ClassDef):
                self.assertEqual(node.decorator_list + node.keywords, [])
                self.assertLessEqual(len(node.bases), 1)
                for part in node.body:
                    self.assertIsInstance(part, (ast.FunctionDef, ast.Pass))
        self.hold_to(rule)

    def test_methods_and_values_of_objects(self):
        methods, values = [], []
        for _, _, tree in each_file():
            for top in tree.body:
                if isinstance(top, ast.ClassDef):
                    own = [part.name for part in top.body if isinstance(part, ast.FunctionDef)]
                    self.assertEqual(len(own), len(set(own)), top.name)
                    methods.extend(own)
            values.extend(node.attr for node in ast.walk(tree)
                          if isinstance(node, ast.Attribute) and isinstance(node.ctx, ast.Store))
        self.assertEqual(set(methods) & set(values), set())
        for name in set(methods) - set(DUNDERS):
            self.assertFalse(name in OF_PYTHON and name not in METHODS + ["add", "discard"], name)
        for name in values:
            self.assertFalse(name in OF_PYTHON and name not in VALUES_LIKE_METHODS, name)

    def test_init_gives_nothing_back(self):
        def rule(node):
            if isinstance(node, ast.FunctionDef) and node.name == "__init__":
                for part in ast.walk(node):
                    if isinstance(part, ast.Return):
                        self.assertIsNone(part.value)
        self.hold_to(rule)

    def test_statements(self):
        def rule(node):
            if isinstance(node, (ast.For, ast.While)):
                self.assertEqual(node.orelse, [])
            if isinstance(node, ast.Try):
                self.assertEqual(node.finalbody, [])
            if isinstance(node, ast.Assign):
                self.assertEqual(len(node.targets), 1)
            if isinstance(node, ast.ExceptHandler):
                self.assertIsNotNone(node.type)
                self.assertNotIn(ast.unparse(node.type), ["Exception", "TypeError"])
            if isinstance(node, ast.ListComp):
                self.assertEqual(len(node.generators), 1)
                self.assertLessEqual(len(node.generators[0].ifs), 1)
            if isinstance(node, ast.Compare) and any(isinstance(op, (ast.Is, ast.IsNot)) for op in node.ops):
                self.assertIn(ast.unparse(node.comparators[0]), ["None", "True", "False"])
        self.hold_to(rule)

    def test_values(self):
        def rule(node):
            if isinstance(node, ast.Constant):
                self.assertIn(type(node.value), (int, str, bool, type(None)))
                self.assertNotIn("%", str(node.value))
            if isinstance(node, ast.FormattedValue):
                self.assertIsInstance(node.value, ast.Name)
                self.assertIsNone(node.format_spec)
            if isinstance(node, ast.BinOp) and isinstance(node.op, ast.Pow):
                self.assertIsInstance(node.right, ast.Constant)
        self.hold_to(rule)

    def test_names(self):
        of_python = dir(builtins)

        def rule(node):
            for name in bound_names(node):
                if name not in DUNDERS:
                    self.assertRegex(name, r"^[A-Za-z][A-Za-z0-9_]*$")
                    self.assertNotIn(name, BARRED_NAMES)
                if isinstance(node, (ast.Name, ast.arg)):
                    self.assertNotIn(name, of_python)
            if isinstance(node, ast.Name) and isinstance(node.ctx, ast.Load) and node.id in of_python:
                self.assertIn(node.id, OWN_NAMES)
        self.hold_to(rule)

    def test_methods(self):
        own = [part.name for _, _, tree in each_file() for top in tree.body if isinstance(top, ast.ClassDef)
               for part in top.body if isinstance(part, ast.FunctionDef)]

        def rule(node):
            if isinstance(node, ast.Call) and isinstance(node.func, ast.Attribute):
                self.assertIn(node.func.attr, METHODS + own)
        self.hold_to(rule)

    def test_sets_are_not_kept(self):
        def rule(node):
            for part in ast.iter_child_nodes(node):
                if isinstance(part, ast.Call) and ast.unparse(part.func) in ("set", "frozenset"):
                    self.assertIsInstance(node, (ast.Call, ast.Compare, ast.BinOp))
                    if isinstance(node, ast.Call):
                        self.assertIn(ast.unparse(node.func), ["len", "sorted"])
        self.hold_to(rule)


if __name__ == "__main__":
    unittest.main()
