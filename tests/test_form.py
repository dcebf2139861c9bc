"""The part of Python that the package's files keep to, as far as a walk through them can see it."""

import ast
import builtins
import re
import unittest
from pathlib import Path

PACKAGE = Path(__file__).resolve().parent.parent / "gatekin"
FILES = sorted(PACKAGE.rglob("*.py"))
BUILT_IN = set(dir(builtins))

ERRORS = set("""Exception ValueError TypeError KeyError IndexError LookupError ZeroDivisionError ArithmeticError
    OverflowError RuntimeError NotImplementedError AttributeError StopIteration""".split())
OWN_OF_PYTHON = ERRORS | set("""len range enumerate zip min max sum abs sorted reversed int str bool list tuple dict set
    frozenset isinstance ord repr any all divmod""".split())
METHODS = set("""append clear copy count endswith extend find get index insert isalnum isalpha isdigit islower isspace
    isupper items join keys ljust lower lstrip partition pop remove replace reverse rfind rjust rpartition rsplit rstrip
    setdefault split splitlines startswith strip update upper values zfill bit_length""".split())
NODES = set("""Module ImportFrom alias FunctionDef arguments arg ClassDef Lambda Assign AugAssign If While For
    Return Break Continue Pass Raise Try ExceptHandler Expr BoolOp And Or BinOp Add Sub Mult FloorDiv Mod Pow BitAnd
    BitOr BitXor LShift RShift UnaryOp Not USub UAdd Invert IfExp Compare Eq NotEq Lt LtE Gt GtE Is IsNot In NotIn Call
    keyword Constant JoinedStr FormattedValue Attribute Subscript Slice Name Load Store List Tuple Dict ListComp
    comprehension""".split())
NOWHERE = set("register mro elements open input version_info with_traceback add_note".split())
WORDS = """type typing typing_extensions enum Enum IntEnum StrEnum Flag IntFlag Generic Protocol ABC ABCMeta namedtuple
    NamedTuple TypedDict TYPE_CHECKING abstractmethod""".split()
METHODS_THAT_READ = set("get items keys values count index copy".split())
SPECIAL = set("__init__ __eq__ __repr__ __str__ __len__".split())
WALKED = set("zip enumerate reversed range".split())
WALKED_METHODS = set("items keys values".split())
WALKERS = set("list tuple dict sorted sum any all enumerate zip min max".split())
KEYWORDS = {"sorted": {"key", "reverse"}, "min": {"key", "default"}, "max": {"key", "default"}, "sum": {"start"},
            "enumerate": {"start"}, "zip": {"strict"}}


def called(node):
    """The plain name that is called, or None."""
    return node.func.id if isinstance(node, ast.Call) and isinstance(node.func, ast.Name) else None


def parents(tree):
    return {part: node for node in ast.walk(tree) for part in ast.iter_child_nodes(node)}


def bound_names(tree):
    """The names that parameters, locals, defs and classes are given."""
    for node in ast.walk(tree):
        if isinstance(node, ast.arg):
            yield node.arg
        elif isinstance(node, ast.Name) and isinstance(node.ctx, ast.Store):
            yield node.id
        elif isinstance(node, (ast.FunctionDef, ast.ClassDef)):
            yield node.name


def top_names(tree):
    told = []
    for node in tree.body:
        if isinstance(node, (ast.FunctionDef, ast.ClassDef)):
            told.append(node.name)
        elif isinstance(node, ast.Assign):
            told += [target.id for target in node.targets]
        elif isinstance(node, ast.ImportFrom):
            told += [alias.name for alias in node.names]
    return told


def drawn_from(tree):
    return [node.module for node in tree.body if isinstance(node, ast.ImportFrom)]


def inner_names(tree):
    """The parameters and locals of all defs."""
    for node in ast.walk(tree):
        if isinstance(node, (ast.FunctionDef, ast.Lambda)):
            yield from [name for part in ast.iter_child_nodes(node) for name in bound_names(part)]


class Form(unittest.TestCase):
    def each(self, check):
        for file in FILES:
            text = file.read_text(encoding="utf-8")
            with self.subTest(file=file.name):
                check(text, ast.parse(text))

    def test_files(self):
        others = [file for file in PACKAGE.rglob("*") if "__pycache__" not in file.parts and file not in FILES]
        self.assertEqual(others, [])
        self.assertIn(PACKAGE / "__init__.py", FILES)
        for file in FILES:
            self.assertRegex(file.name, r"^([a-z][a-z0-9_]*|__init__|__main__)\.py$")
            self.assertNotIn(file.stem, BUILT_IN)
            self.assertNotIn(file.stem, WORDS + "test tests testing site conftest".split())

    def test_signs_and_sizes(self):
        def check(text, tree):
            self.assertRegex(text, r"\A[\n -~]*\Z")
            self.assertLessEqual(len(text.splitlines()), 400)
            self.assertLessEqual(max(len(line) for line in text.splitlines()), 120)
            for node in ast.walk(tree):
                if isinstance(node, ast.FunctionDef):
                    self.assertLessEqual(node.end_lineno - node.lineno + 1, 40, node.name)

        self.each(check)

    def test_words(self):
        def check(text, tree):
            self.assertEqual([word for word in WORDS if re.search(rf"\b{word}\b", text)], [])
            self.assertNotRegex(text, "dataclass|overload|contextmanager")

        self.each(check)

    def test_imports(self):
        homes = {"gatekin." + file.stem: top_names(ast.parse(file.read_text())) for file in FILES}

        def check(text, tree):
            for node in ast.walk(tree):
                if isinstance(node, ast.ImportFrom):
                    self.assertEqual(node.level, 0)
                    self.assertIn(node, tree.body)
                    for alias in node.names:
                        self.assertIn(alias.name, homes[node.module])
                        self.assertIsNone(alias.asname)

        self.each(check)

    def test_no_two_files_draw_from_one_another(self):
        draws = {"gatekin." + file.stem: drawn_from(ast.parse(file.read_text())) for file in FILES}
        while draws:
            free = [name for name in draws if not set(draws[name]) & set(draws)]
            self.assertTrue(free, draws)
            draws = {name: draws[name] for name in draws if name not in free}

    def test_statements_and_expressions(self):
        def check(text, tree):
            used = {type(node).__name__ for node in ast.walk(tree)}
            self.assertEqual(sorted(used - NODES), [])
            for node in ast.walk(tree):
                if isinstance(node, ast.Assign):
                    self.assertEqual(len(node.targets), 1)
                    self.assertNotIsInstance(node.targets[0], (ast.Tuple, ast.List))
                elif isinstance(node, (ast.For, ast.While)):
                    self.assertEqual(node.orelse, [])
                elif isinstance(node, ast.ListComp):
                    self.assertEqual(len(node.generators), 1)
                    self.assertLessEqual(len(node.generators[0].ifs), 1)
                elif isinstance(node, ast.BinOp) and isinstance(node.op, ast.Pow):
                    self.assertIn(getattr(node.right, "value", None), range(65))
                elif isinstance(node, ast.Constant):
                    self.assertIsInstance(node.value, (int, str, type(None)))
                elif isinstance(node, ast.Expr) and node is not tree.body[0]:
                    self.assertIsInstance(node.value, ast.Call)

        self.each(check)

    def test_functions_and_classes(self):
        def check(text, tree):
            for node in ast.walk(tree):
                if isinstance(node, ast.FunctionDef):
                    given = node.args
                    self.assertEqual((node.decorator_list, node.returns), ([], None))
                    self.assertEqual((given.vararg, given.kwarg, given.kwonlyargs, given.posonlyargs), (None, None, [], []))
                elif isinstance(node, ast.ClassDef):
                    self.assertIn(node, tree.body)
                    self.assertEqual((node.decorator_list, node.keywords), ([], []))
                    self.assertLessEqual(len(node.bases), 1)
                    for part in node.body:
                        self.assertIsInstance(part, (ast.FunctionDef, ast.Pass))

        self.each(check)

    def test_names(self):
        def check(text, tree):
            self.assertEqual(len(top_names(tree)), len(set(top_names(tree))))
            outer = [name for node in tree.body if isinstance(node, (ast.ClassDef, ast.ImportFrom))
                     for name in top_names(ast.Module([node], []))]
            self.assertEqual(set(outer) & set(inner_names(tree)), set())
            for name in bound_names(tree):
                self.assertTrue(name in SPECIAL or re.match(r"[A-Za-z][A-Za-z0-9_]*$", name), name)
                self.assertNotIn(name, NOWHERE)
            self.assertEqual(BUILT_IN & set(top_names(tree) + list(inner_names(tree))), set())
            known = set(bound_names(tree)) | set(top_names(tree)) | OWN_OF_PYTHON
            for node in ast.walk(tree):
                if isinstance(node, ast.Name):
                    self.assertIn(node.id, known)
                elif isinstance(node, ast.Attribute):
                    self.assertNotIn(node.attr, NOWHERE)

        self.each(check)

    def test_methods_of_pythons_own(self):
        trees = [ast.parse(file.read_text()) for file in FILES]
        own = {node.name for tree in trees for node in ast.walk(tree) if isinstance(node, ast.FunctionDef)}

        def check(text, tree):
            for node in ast.walk(tree):
                if isinstance(node, ast.Call) and isinstance(node.func, ast.Attribute):
                    self.assertIn(node.func.attr, METHODS | own)

        self.each(check)

    def test_is(self):
        def check(text, tree):
            for node in ast.walk(tree):
                if isinstance(node, ast.Compare) and any(isinstance(op, (ast.Is, ast.IsNot)) for op in node.ops):
                    self.assertIn(ast.unparse(node.comparators[0]), ("None", "True", "False"))

        self.each(check)

    def test_walked_at_once(self):
        def check(text, tree):
            above = parents(tree)
            for node in ast.walk(tree):
                method = isinstance(node, ast.Call) and getattr(node.func, "attr", None) in WALKED_METHODS
                if called(node) in WALKED or method:
                    over = above[node]
                    walked = isinstance(over, (ast.For, ast.comprehension)) and over.iter is node
                    self.assertTrue(walked or called(over) in WALKERS and over.args[0] is node, ast.unparse(over))

        self.each(check)

    def test_sets(self):
        def check(text, tree):
            above = parents(tree)
            for node in ast.walk(tree):
                if called(node) in ("set", "frozenset"):
                    over = above[node]
                    while isinstance(over, ast.BinOp):
                        over = above[over]
                    self.assertTrue(isinstance(over, ast.Compare) or called(over) in ("sorted", "len"), ast.unparse(over))

        self.each(check)

    def test_keywords(self):
        def check(text, tree):
            for node in ast.walk(tree):
                if called(node) in OWN_OF_PYTHON:
                    self.assertLessEqual({word.arg for word in node.keywords}, KEYWORDS.get(called(node), set()))
                elif isinstance(node, ast.Call) and isinstance(node.func, ast.Attribute):
                    self.assertEqual(node.keywords, [])

        self.each(check)

    def test_errors_taken(self):
        """ValueError and its like are taken round one call of Python's own alone, in a try of its own."""
        def check(text, tree):
            for node in ast.walk(tree):
                if isinstance(node, ast.ExceptHandler):
                    self.assertIsInstance(node.type, ast.Name)
                    self.assertNotIn(node.type.id, ("Exception", "TypeError"))
                elif isinstance(node, ast.Try):
                    self.assertEqual((len(node.body), node.finalbody), (1, []))
                    calls = [ast.unparse(call.func) for call in ast.walk(node.body[0]) if isinstance(call, ast.Call)]
                    if any(handler.type.id in ("ValueError", "LookupError") for handler in node.handlers):
                        self.assertLessEqual(set(calls), {"int", "str", "index", "remove"})
                elif isinstance(node, ast.Raise):
                    self.assertIsInstance(node.exc, ast.Call)

        self.each(check)

    def test_methods_and_values_of_objects(self):
        trees = [ast.parse(file.read_text()) for file in FILES]
        classes = [node for tree in trees for node in ast.walk(tree) if isinstance(node, ast.ClassDef)]
        methods = [part.name for node in classes for part in node.body if isinstance(part, ast.FunctionDef)]
        values = [node.attr for tree in trees for node in ast.walk(tree)
                  if isinstance(node, ast.Attribute) and isinstance(node.ctx, ast.Store)]
        self.assertEqual(set(methods) & set(values), set())
        own = {name for kind in (str, int, list, dict, set, bytes) for name in dir(kind)}
        self.assertEqual((set(methods) - SPECIAL) & own, set())
        self.assertEqual(set(values) & own, set())

    def test_lists_and_dicts_of_the_top(self):
        """They hold no lists or dicts, and no call changes them."""
        def check(text, tree):
            kept = {node.targets[0].id for node in tree.body
                    if isinstance(node, ast.Assign) and isinstance(node.value, (ast.List, ast.Dict))}
            for node in tree.body:
                if isinstance(node, ast.Assign):
                    inner = [part for part in ast.walk(node.value) if part is not node.value]
                    self.assertFalse([part for part in inner if isinstance(part, (ast.List, ast.Dict, ast.Call))])
            for node in ast.walk(tree):
                if isinstance(node, ast.Subscript) and isinstance(node.ctx, ast.Store):
                    self.assertNotIn(getattr(node.value, "id", None), kept)
                elif isinstance(node, ast.Attribute):
                    self.assertTrue(getattr(node.value, "id", None) not in kept or node.attr in METHODS_THAT_READ)

        self.each(check)

    def test_texts(self):
        def check(text, tree):
            for node in ast.walk(tree):
                if isinstance(node, ast.Constant) and isinstance(node.value, str):
                    self.assertNotIn("%", node.value)

        self.each(check)


if __name__ == "__main__":
    unittest.main()
