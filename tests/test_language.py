"""Tests that the package's files keep to the rules of LANGUAGE.md that a reader of trees can see."""

import ast
import builtins
import io
import os
import re
import tokenize
import unittest
import warnings

PACKAGE = os.path.join(os.path.dirname(os.path.dirname(os.path.abspath(__file__))), "fallways")

LIBRARY = {
    "heapq": {"heappush", "heappop", "heapify", "heapreplace", "heappushpop"},
    "math": {"gcd", "lcm", "isqrt", "comb", "perm", "factorial"},
    "itertools": {
        "product", "combinations", "permutations", "chain", "accumulate", "pairwise", "islice",
        "zip_longest",
    },
    "collections": {"defaultdict"},
}

ALLOWED_BUILTINS = set(
    "len range enumerate zip min max sum abs sorted reversed int str bool list tuple dict set "
    "isinstance ord repr any all divmod pow getattr hasattr setattr iter next map property "
    "staticmethod classmethod super Exception ValueError TypeError KeyError IndexError LookupError "
    "ZeroDivisionError ArithmeticError OverflowError RuntimeError NotImplementedError "
    "AttributeError StopIteration NotImplemented object".split()
)

BARRED_NAMES = set("register mro elements open input law version_info with_traceback add_note".split())

BARRED_WORDS = (
    r"\b(type|typing|typing_extensions|enum|Enum|IntEnum|StrEnum|Flag|IntFlag|Generic|Protocol|ABC|"
    r"ABCMeta|namedtuple|NamedTuple|TypedDict|TYPE_CHECKING|abstractmethod)\b"
    r"|dataclass|overload|contextmanager"
)

STATEMENTS = (
    ast.Assign, ast.AugAssign, ast.AnnAssign, ast.If, ast.While, ast.For, ast.Return, ast.Break,
    ast.Continue, ast.Pass, ast.Raise, ast.Assert, ast.Delete, ast.Nonlocal, ast.Match, ast.With,
    ast.Try, ast.Expr, ast.FunctionDef, ast.ClassDef, ast.ImportFrom,
)

METHODS = {"__init__", "__eq__", "__repr__", "__str__", "__len__", "__call__", "__iter__"}


def paths():
    found = []
    for folder, _, names in os.walk(PACKAGE):
        if os.path.basename(folder) != "__pycache__":
            found.extend(os.path.join(folder, name) for name in sorted(names))
    return found


def text_of(path):
    with open(path, encoding="utf-8", newline="") as file:
        return file.read()


def bound_names(tree):
    """All names that a file binds, but for attributes."""
    for node in ast.walk(tree):
        if isinstance(node, (ast.FunctionDef, ast.ClassDef)):
            yield node.name
        elif isinstance(node, ast.arg):
            yield node.arg
        elif isinstance(node, ast.Name) and not isinstance(node.ctx, ast.Load):
            yield node.id
        elif isinstance(node, ast.ExceptHandler) and node.name:
            yield node.name


def is_set(node):
    return isinstance(node, ast.Call) and isinstance(node.func, ast.Name) and node.func.id == "set"


class Language(unittest.TestCase):
    def setUp(self):
        self.files = {path: text_of(path) for path in paths()}
        self.trees = {path: ast.parse(text) for path, text in self.files.items()}

    def nodes(self, *kinds):
        for path, tree in self.trees.items():
            for node in ast.walk(tree):
                if isinstance(node, kinds):
                    yield os.path.basename(path), node

    def test_files(self):
        self.assertIn(os.path.join(PACKAGE, "__init__.py"), self.files)
        self.assertLessEqual(len(self.files), 100)
        for path in self.files:
            self.assertRegex(os.path.basename(path), r"^([a-z0-9][a-z0-9_]*|__init__)\.py$")

    def test_signs_and_sizes(self):
        for path, text in self.files.items():
            self.assertRegex(text, r"^[ -~\n]*\Z", path)
            self.assertLess(len(text.splitlines()), 400, path)
            self.assertLessEqual(max(map(len, text.split("\n"))), 120, path)
        for name, node in self.nodes(ast.FunctionDef):
            self.assertLessEqual(node.end_lineno - node.lineno + 1, 40, (name, node.name))

    def test_python_gives_no_warning(self):
        for path, text in self.files.items():
            with warnings.catch_warnings():
                warnings.simplefilter("error")
                compile(text, path, "exec")

    def test_statements(self):
        for name, node in self.nodes(ast.stmt):
            self.assertIsInstance(node, STATEMENTS, (name, node.lineno))
        for name, node in self.nodes(ast.Expr):
            doc = isinstance(node.value, ast.Constant) and isinstance(node.value.value, str)
            self.assertTrue(doc or isinstance(node.value, (ast.Call, ast.Yield, ast.YieldFrom)), name)

    def test_module_level(self):
        for path, tree in self.trees.items():
            for node in tree.body:
                self.assertIsInstance(
                    node, (ast.Expr, ast.ImportFrom, ast.FunctionDef, ast.ClassDef, ast.Assign), path
                )

    def test_imports(self):
        for name, node in self.nodes(ast.ImportFrom):
            self.assertEqual(node.level, 0, name)
            for alias in node.names:
                if node.module in LIBRARY:
                    self.assertIn(alias.name, LIBRARY[node.module])
                    self.assertIsNone(alias.asname)
                    continue
                head, _, file = node.module.partition(".")
                self.assertEqual(head, "fallways", name)
                tree = self.trees[os.path.join(PACKAGE, f"{file}.py")]
                self.assertIn(alias.name, list(bound_names(tree)), name)

    def test_no_two_files_import_from_each_other(self):
        wanted = {}
        for name, node in self.nodes(ast.ImportFrom):
            wanted.setdefault(name, set()).add(node.module.partition(".")[2] + ".py")
        for name in wanted:
            reached, rows = set(), [name]
            while rows:
                for other in wanted.get(rows.pop(), ()):
                    if other not in reached:
                        reached.add(other)
                        rows.append(other)
            self.assertNotIn(name, reached)

    def test_builtins(self):
        known = set(dir(builtins))
        for name, node in self.nodes(ast.Name):
            if node.id in known:
                self.assertIn(node.id, ALLOWED_BUILTINS, (name, node.lineno))
        for path, tree in self.trees.items():
            methods = {
                node.name for owner in ast.walk(tree) if isinstance(owner, ast.ClassDef)
                for node in owner.body if isinstance(node, ast.FunctionDef)
            }
            for bound in bound_names(tree):
                self.assertFalse(bound in known and bound not in methods, (path, bound))

    def test_names(self):
        for path, tree in self.trees.items():
            attributes = [node.attr for node in ast.walk(tree) if isinstance(node, ast.Attribute)]
            for bound in [*bound_names(tree), *attributes]:
                self.assertNotIn(bound, BARRED_NAMES, path)
                self.assertRegex(bound, r"^_?[A-Za-z][A-Za-z0-9_]*$|^_$|^__[a-z]+__$", path)
                if bound.startswith("__"):
                    self.assertIn(bound, METHODS, path)
                self.assertIsNone(re.match(
                    r"_(wall|pe_|dcw_|enum_|cm_|twin_re_|lay_|law_|stub_|sre|WallAttr)"
                    r"|_(cold|tuplegetter|outside|record|written_out|member_names)[0-9_]*$", bound
                ), (path, bound))

    def test_barred_words(self):
        for path, text in self.files.items():
            parts = []
            docs = {
                node.value.lineno for node in ast.walk(self.trees[path])
                if isinstance(node, ast.Expr) and isinstance(node.value, ast.Constant)
            }
            for token in tokenize.generate_tokens(io.StringIO(text).readline):
                if token.type != tokenize.COMMENT and token.start[0] not in docs:
                    parts.append(token.string)
            self.assertIsNone(re.search(BARRED_WORDS, " ".join(parts)), path)

    def test_values(self):
        for name, node in self.nodes(ast.Constant):
            self.assertNotIsInstance(node.value, (float, complex), (name, node.lineno))
            if isinstance(node.value, str):
                self.assertNotIn("%", node.value, (name, node.lineno))
        for name, node in self.nodes(ast.Div, ast.MatMult, ast.Await, ast.Global):
            self.fail((name, node))

    def test_no_name_is_a_method_and_an_attribute(self):
        methods = {
            node.name for _, owner in self.nodes(ast.ClassDef) for node in owner.body
            if isinstance(node, ast.FunctionDef)
        }
        for name, node in self.nodes(ast.Attribute):
            if isinstance(node.ctx, ast.Store):
                self.assertNotIn(node.attr, methods, (name, node.lineno))

    def test_sets_are_only_added_to_and_asked(self):
        for name, function in self.nodes(ast.FunctionDef):
            sets = {
                node.targets[0].id for node in ast.walk(function)
                if isinstance(node, ast.Assign) and is_set(node.value)
            }
            allowed = 0
            for node in ast.walk(function):
                if isinstance(node, ast.Assign) and is_set(node.value):
                    allowed += 1
                elif isinstance(node, ast.Attribute) and node.attr == "add":
                    allowed += 1
                elif isinstance(node, ast.Compare) and isinstance(node.ops[0], (ast.In, ast.NotIn)):
                    allowed += getattr(node.comparators[0], "id", "") in sets
            uses = [node for node in ast.walk(function) if isinstance(node, ast.Name) and node.id in sets]
            self.assertEqual(len(uses), allowed, (name, function.name))
        for name, node in self.nodes(ast.Set, ast.SetComp):
            self.fail((name, node.lineno))

    def test_what_callers_pass_is_not_called_in_a_generator(self):
        # There a StopIteration of theirs would not go on unchanged.
        for name, node in self.nodes(ast.GeneratorExp):
            for call in ast.walk(node):
                if isinstance(call, ast.Call):
                    word = getattr(call.func, "id", getattr(call.func, "attr", ""))
                    self.assertNotIn(word, {"test", "function", "perform", "holds", "shuts_out", "mended"}, name)
        for name, node in self.nodes(ast.Yield, ast.YieldFrom):
            self.fail((name, node.lineno))

    def test_is_stands_before_none_and_truths_alone(self):
        for name, node in self.nodes(ast.Compare):
            for sign, right in zip(node.ops, node.comparators):
                if isinstance(sign, (ast.Is, ast.IsNot)):
                    self.assertIsInstance(right, ast.Constant, (name, node.lineno))
                    self.assertIn(right.value, (None, True, False), (name, node.lineno))

    def test_caught_errors_are_own_ones_or_free(self):
        own = {node.name for _, node in self.nodes(ast.ClassDef)}
        for name, node in self.nodes(ast.ExceptHandler):
            self.assertIsNotNone(node.type, (name, node.lineno))
            kinds = node.type.elts if isinstance(node.type, ast.Tuple) else [node.type]
            for kind in kinds:
                self.assertIn(kind.id, own | {"KeyError", "ZeroDivisionError"}, (name, node.lineno))


if __name__ == "__main__":
    unittest.main()
