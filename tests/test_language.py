"""The package's files keep to the form of LANGUAGE.md, as far as a look at their syntax tells."""

import ast
import builtins
import pathlib
import re
import unittest

PACKAGE = pathlib.Path(__file__).resolve().parent.parent / "besideweb"
FILES = sorted(path for path in PACKAGE.rglob("*") if path.is_file() and "__pycache__" not in path.parts)
SOURCES = {path.name: path.read_bytes().decode("utf-8") for path in FILES}

NODES = set("""
    Module Import ImportFrom alias FunctionDef ClassDef arguments arg Assign AugAssign If While For Return Break
    Continue Pass Raise Try ExceptHandler Expr Name Load Store Constant List Tuple Dict Set BinOp UnaryOp BoolOp
    Compare IfExp Call keyword Attribute Subscript Slice ListComp comprehension JoinedStr FormattedValue Lambda
    Add Sub Mult FloorDiv Mod Pow LShift RShift BitOr BitAnd BitXor Invert Not USub UAdd And Or
    Eq NotEq Lt LtE Gt GtE Is IsNot In NotIn
""".split())
OWN_OF_PYTHON = set("""
    len range enumerate zip min max sum abs sorted reversed int str bool list tuple dict set isinstance ord repr any
    all divmod Exception ValueError TypeError KeyError IndexError LookupError ZeroDivisionError ArithmeticError
    OverflowError RuntimeError NotImplementedError
""".split())
METHODS = set("""
    append clear copy count endswith extend find get index insert isalnum isalpha isdigit islower isspace isupper
    items join keys ljust lower lstrip partition pop remove replace reverse rfind rjust rpartition rsplit rstrip
    setdefault split splitlines startswith strip update upper values zfill bit_length __init__
""".split())
WALKED_AT_ONCE = ("zip", "enumerate", "reversed", "range", "items", "keys", "values")
WALKERS = ("list", "tuple", "dict", "sorted", "sum", "any", "all", "enumerate", "zip", "min", "max", "join")
DUNDERS = ("__init__", "__eq__", "__repr__", "__str__", "__len__")
WORDS = re.compile(
    r"\b(type|typing|typing_extensions|enum|Enum|IntEnum|StrEnum|Flag|IntFlag|Generic|Protocol|ABC|ABCMeta|namedtuple"
    r"|NamedTuple|TypedDict|TYPE_CHECKING|abstractmethod)\b|dataclass|overload|contextmanager")


def walked(kind=ast.AST):
    for name, text in SOURCES.items():
        for node in ast.walk(ast.parse(text)):
            if isinstance(node, kind):
                yield name, node


def walked_with_parents(kind):
    """Each node of this kind with the one that it stands straight in."""
    for name, parent in walked():
        for node in ast.iter_child_nodes(parent):
            if isinstance(node, kind):
                yield name, parent, node


def called(node):
    """The name by which something is called, or nothing where node is no call."""
    if not isinstance(node, ast.Call):
        return ""
    return node.func.id if isinstance(node.func, ast.Name) else node.func.attr


def own_values():
    return {node.attr for _, node in walked(ast.Attribute) if isinstance(node.ctx, ast.Store)}


def own_methods():
    return {node.name for _, owner in walked(ast.ClassDef) for node in owner.body if isinstance(node, ast.FunctionDef)}


class Language(unittest.TestCase):
    def test_files_have_plain_names(self):
        self.assertIn("__init__.py", SOURCES)
        for path in FILES:
            self.assertRegex(path.name, r"^([a-z][a-z0-9_]*|__init__|__main__)\.py$")
            self.assertNotIn(path.stem, dir(builtins))
            self.assertNotRegex(path.name, r"^(test|site|conftest|usercustomize)")

    def test_signs_and_sizes(self):
        for name, text in SOURCES.items():
            self.assertRegex(text, r"\A[ -~\n]*\Z", name)
            lines = text.split("\n")
            self.assertLessEqual(len(lines), 400, name)
            self.assertLessEqual(max(map(len, lines)), 120, name)
        for name, node in walked(ast.FunctionDef):
            self.assertLessEqual(node.end_lineno - node.lineno + 1, 40, (name, node.name))

    def test_words_that_stand_nowhere(self):
        for name, text in SOURCES.items():
            self.assertIsNone(WORDS.search(text), name)

    def test_statements_and_expressions(self):
        for name, node in walked():
            self.assertIn(node.__class__.__name__, NODES, (name, getattr(node, "lineno", 0)))
        for name, node in walked((ast.For, ast.While, ast.Try)):
            self.assertFalse(getattr(node, "finalbody", []), name)
            self.assertFalse(node.orelse and not isinstance(node, ast.Try), name)
        for name, node in walked(ast.Constant):
            self.assertIn(node.value.__class__, (int, str, bool, None.__class__), name)

    def test_defs_are_plain(self):
        for name, node in walked((ast.FunctionDef, ast.ClassDef)):
            self.assertEqual(node.decorator_list, [], (name, node.name))
        for name, node in walked(ast.arguments):
            self.assertFalse(node.vararg or node.kwarg or node.kwonlyargs or node.posonlyargs, name)
        for name, node in walked(ast.ClassDef):
            self.assertLessEqual(len(node.bases), 1, (name, node.name))
            for inner in node.body:
                self.assertIsInstance(inner, (ast.FunctionDef, ast.Expr), (name, node.name))

    def test_names(self):
        bound = [(name, node.id) for name, node in walked(ast.Name) if isinstance(node.ctx, ast.Store)]
        bound += [(name, node.arg) for name, node in walked(ast.arg)]
        bound += [(name, node.name) for name, node in walked((ast.FunctionDef, ast.ClassDef))]
        for name, word in bound:
            self.assertTrue(word in DUNDERS or re.match(r"[A-Za-z][A-Za-z0-9_]*\Z", word), (name, word))
            self.assertNotIn(word, dir(builtins), name)
        for name, node in walked(ast.Name):
            if node.id in dir(builtins):
                self.assertIn(node.id, OWN_OF_PYTHON, (name, node.lineno))

    def test_methods_and_values(self):
        for name, node in walked(ast.Attribute):
            self.assertIn(node.attr, METHODS | own_methods() | own_values(), (name, node.lineno))
        self.assertEqual(own_methods() & own_values(), set())

    def test_imports_name_the_defining_file_and_run_in_no_ring(self):
        draws = {name: set() for name in SOURCES}
        for name, node in walked((ast.Import, ast.ImportFrom)):
            self.assertIsInstance(node, ast.ImportFrom, name)
            self.assertRegex(node.module, r"^besideweb\.[a-z]+$", name)
            source = node.module.split(".")[1] + ".py"
            defined = [inner.name for inner in ast.parse(SOURCES[source]).body if hasattr(inner, "name")]
            for inner in ast.parse(SOURCES[source]).body:
                if isinstance(inner, ast.Assign):
                    defined += [target.id for target in inner.targets]
            for drawn in node.names:
                self.assertIn(drawn.name, defined, name)
            draws[name].add(source)
        while draws:
            free = [name for name in draws if not draws[name] & set(draws)]
            self.assertTrue(free, draws)
            draws = {name: draws[name] for name in draws if name not in free}

    def test_params_and_locals_are_not_called_like_classes_or_imports_of_the_file(self):
        for name, text in SOURCES.items():
            module = ast.parse(text)
            taken = [node.name for node in module.body if isinstance(node, ast.ClassDef)]
            taken += [drawn.name for node in module.body if isinstance(node, ast.ImportFrom) for drawn in node.names]
            self.assertFalse([node for node in ast.walk(module) if isinstance(node, ast.alias) and node.asname], name)
            for node in ast.walk(module):
                self.assertNotIn(getattr(node, "arg", None), taken, name)
                if isinstance(node, ast.Name) and isinstance(node.ctx, ast.Store):
                    self.assertNotIn(node.id, taken, name)

    def test_is_stands_beside_none_true_and_false_alone(self):
        for name, node in walked(ast.Compare):
            for sign, right in zip(node.ops, node.comparators):
                if isinstance(sign, (ast.Is, ast.IsNot)):
                    self.assertTrue(isinstance(right, ast.Constant) and right.value in (None, True, False), name)

    def test_sets_are_neither_kept_nor_walked(self):
        for name, parent, node in walked_with_parents(ast.Call):
            if called(node) == "set":
                asked = called(parent) in ("len", "sorted") or isinstance(parent, ast.Compare)
                self.assertTrue(asked, (name, node.lineno))

    def test_what_is_walked_at_once(self):
        for name, parent, node in walked_with_parents(ast.Call):
            if called(node) in WALKED_AT_ONCE:
                behind_in = isinstance(parent, (ast.For, ast.comprehension))
                self.assertTrue(behind_in or called(parent) in WALKERS, (name, node.lineno))

    def test_what_a_loop_walks_is_not_changed_in_it(self):
        for name, loop in walked(ast.For):
            over = {node.id for node in ast.walk(loop.iter) if isinstance(node, ast.Name)}
            for node in ast.walk(loop):
                if isinstance(node, ast.Call) and isinstance(node.func, ast.Attribute):
                    if node.func.attr in ("append", "extend", "insert", "pop", "remove", "reverse", "clear", "update"):
                        self.assertNotIn(getattr(node.func.value, "id", None), over, (name, node.lineno))
                if isinstance(node, ast.Subscript) and isinstance(node.ctx, ast.Store):
                    self.assertNotIn(getattr(node.value, "id", None), over, (name, node.lineno))

    def test_small_forms(self):
        for name, node in walked(ast.Assign):
            self.assertEqual(len(node.targets), 1, (name, node.lineno))
        for name, node in walked(ast.keyword):
            self.assertIn(node.arg, ("key", "reverse", "default", "start", "strict"), name)
        for name, node in walked(ast.ListComp):
            self.assertTrue(len(node.generators) == 1 and len(node.generators[0].ifs) <= 1, (name, node.lineno))
        for name, node in walked(ast.FormattedValue):
            self.assertTrue(isinstance(node.value, ast.Name) and node.format_spec is None, (name, node.lineno))
        for name, node in walked(ast.BinOp):
            self.assertNotIsInstance(node.op, ast.Pow, (name, node.lineno))
        for name, node in walked(ast.Constant):
            self.assertFalse(isinstance(node.value, str) and "%" in node.value, (name, node.lineno))

    def test_errors_are_made_on_the_spot_and_taken_by_name(self):
        own = [node.name for node in ast.parse(SOURCES["errors.py"]).body if isinstance(node, ast.ClassDef)]
        for name, node in walked(ast.Raise):
            self.assertIn(called(node.exc), own, (name, node.lineno))
        for name, node in walked(ast.ExceptHandler):
            self.assertTrue(isinstance(node.type, ast.Name) and node.type.id in own, (name, node.lineno))

    def test_the_top_of_a_file(self):
        for name, text in SOURCES.items():
            module = ast.parse(text)
            self.assertTrue(ast.get_docstring(module), name)
            for node in module.body[1:]:
                self.assertIsInstance(node, (ast.ImportFrom, ast.FunctionDef, ast.ClassDef, ast.Assign), name)


if __name__ == "__main__":
    unittest.main()
