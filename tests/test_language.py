"""The rules L1 to L28 of the language, as far as they can be seen in the package's syntax."""

import ast
import builtins
import re
import unittest
from pathlib import Path

PACKAGE = Path(__file__).resolve().parent.parent / "slidebox"
ERRORS = """Exception ValueError TypeError KeyError IndexError LookupError ZeroDivisionError ArithmeticError
    OverflowError RuntimeError NotImplementedError AttributeError StopIteration""".split()
CALLED = """len range enumerate zip min max sum abs sorted reversed int str bool list tuple dict set frozenset
    isinstance ord repr any all divmod""".split()
METHODS = """append clear copy count endswith extend find get index insert isalnum isalpha isdigit islower isspace
    isupper items join keys ljust lower lstrip partition pop remove replace reverse rfind rjust rpartition rsplit rstrip
    setdefault split splitlines startswith strip update upper values zfill bit_length""".split()
WORDS = """type typing typing_extensions enum Enum IntEnum StrEnum Flag IntFlag Generic Protocol ABC ABCMeta namedtuple
    NamedTuple TypedDict TYPE_CHECKING abstractmethod""".split()
STATEMENTS = (ast.Module, ast.FunctionDef, ast.ClassDef, ast.ImportFrom, ast.Assign, ast.AugAssign, ast.If, ast.While,
              ast.For, ast.Return, ast.Break, ast.Continue, ast.Pass, ast.Raise, ast.Try, ast.Expr)
EXPRESSIONS = (ast.Constant, ast.List, ast.Tuple, ast.Dict, ast.BinOp, ast.UnaryOp, ast.BoolOp, ast.Compare, ast.IfExp,
               ast.Call, ast.Attribute, ast.Subscript, ast.Slice, ast.ListComp, ast.Name, ast.JoinedStr,
               ast.FormattedValue, ast.Lambda)
PARTS = (ast.arguments, ast.arg, ast.keyword, ast.alias, ast.comprehension, ast.ExceptHandler, ast.expr_context,
         ast.boolop, ast.operator, ast.unaryop, ast.cmpop)
WALKED = ("zip", "enumerate", "reversed", "range", "items", "keys", "values")
WALKERS = ("list", "tuple", "dict", "sorted", "sum", "any", "all", "enumerate", "zip", "min", "max", "join")
KEYWORDS = {"sorted": ["key", "reverse"], "min": ["key", "default"], "max": ["key", "default"], "sum": ["start"],
            "enumerate": ["start"], "zip": ["strict"]}


def sources():
    return {path.stem: path.read_text(encoding="utf-8") for path in sorted(PACKAGE.glob("*.py"))}


TREES = {name: ast.parse(text) for name, text in sources().items()}


def nodes(kind):
    return [(name, node) for name, tree in TREES.items() for node in ast.walk(tree) if isinstance(node, kind)]


def imported(tree):
    return {alias.name: node.module for node in tree.body if isinstance(node, ast.ImportFrom) for alias in node.names}


def defined(tree):
    names = [node.name for node in tree.body if isinstance(node, (ast.FunctionDef, ast.ClassDef))]
    return names + [target.id for node in tree.body if isinstance(node, ast.Assign) for target in node.targets]


def bound_within(tree):
    names = [node.arg for node in ast.walk(tree) if isinstance(node, ast.arg)]
    top = [id(target) for node in tree.body if isinstance(node, ast.Assign) for target in node.targets]
    return names + [node.id for node in ast.walk(tree)
                    if isinstance(node, ast.Name) and isinstance(node.ctx, ast.Store) and id(node) not in top]


def called_name(node):
    return getattr(node.func, "id", getattr(node.func, "attr", None))


class Files(unittest.TestCase):
    def test_only_files_of_the_program(self):
        for path in PACKAGE.iterdir():
            if path.name != "__pycache__":
                self.assertRegex(path.name, r"^([a-z][a-z0-9_]*|__init__|__main__)\.py$")

    def test_signs_and_size(self):
        for name, text in sources().items():
            self.assertRegex(text, r"\A[ -~\n]*\Z", name)
            rows = text.splitlines()
            self.assertLessEqual(len(rows), 400, name)
            self.assertLessEqual(max(len(row) for row in rows), 120, name)

    def test_short_functions(self):
        for name, node in nodes(ast.FunctionDef):
            self.assertLessEqual(node.end_lineno - node.lineno + 1, 40, f"{name}.{node.name}")

    def test_words_that_stand_nowhere(self):
        for name, text in sources().items():
            self.assertEqual(sorted(set(re.findall(r"\w+", text)) & set(WORDS)), [], name)
            self.assertNotRegex(text, "dataclass|overload|contextmanager", name)


class Imports(unittest.TestCase):
    def test_from_the_file_that_defines_the_name(self):
        for name, tree in TREES.items():
            for wanted, module in imported(tree).items():
                package, dot, file = module.partition(".")
                self.assertEqual(package, "slidebox", name)
                self.assertIn(wanted, defined(TREES[file]), name)
        self.assertTrue(all(node.level == 0 for name, node in nodes(ast.ImportFrom)))
        self.assertTrue(all(alias.asname is None for name, alias in nodes(ast.alias)))

    def test_no_ring(self):
        left = {name: set(module.partition(".")[2] for module in imported(tree).values())
                for name, tree in TREES.items()}
        while left:
            free = [name for name, others in left.items() if not others & set(left)]
            self.assertNotEqual(free, [], left)
            left = {name: others for name, others in left.items() if name not in free}

    def test_the_package_itself_binds_nothing(self):
        self.assertEqual(len(TREES["__init__"].body), 1)
        self.assertIsNotNone(ast.get_docstring(TREES["__init__"]))


class Forms(unittest.TestCase):
    def test_known_forms_alone(self):
        for name, node in nodes(ast.AST):
            self.assertIsInstance(node, STATEMENTS + EXPRESSIONS + PARTS, f"{name}: {ast.dump(node)}")

    def test_top_of_files(self):
        for name, tree in TREES.items():
            allowed = (ast.FunctionDef, ast.ClassDef, ast.ImportFrom, ast.Assign)
            self.assertIsNotNone(ast.get_docstring(tree), name)
            self.assertTrue(all(isinstance(node, allowed) for node in tree.body[1:]), name)

    def test_assignments_and_calls(self):
        for name, node in nodes(ast.Assign):
            self.assertEqual(len(node.targets), 1, name)
            self.assertFalse(isinstance(node.targets[0], ast.Tuple), name)
        docstrings = [id(tree.body[0]) for tree in TREES.values()]
        for name, node in nodes(ast.Expr):
            self.assertTrue(id(node) in docstrings or isinstance(node.value, ast.Call), f"{name}:{node.lineno}")

    def test_plain_functions(self):
        for name, node in nodes((ast.FunctionDef, ast.ClassDef)):
            self.assertEqual(node.decorator_list, [], name)
        for name, node in nodes(ast.arguments):
            self.assertTrue(node.vararg is None and node.kwarg is None and not node.kwonlyargs, name)
        for name, node in nodes(ast.For) + nodes(ast.While):
            self.assertEqual(node.orelse, [], name)

    def test_operators_and_numbers(self):
        self.assertEqual(nodes((ast.Div, ast.MatMult, ast.Pow)), [])
        for name, node in nodes(ast.Constant):
            self.assertTrue(node.value is None or isinstance(node.value, (bool, int, str)), name)
            self.assertNotIn("%", str(node.value))
        for name, node in nodes(ast.ListComp):
            self.assertEqual(len(node.generators), 1, name)
            self.assertLessEqual(len(node.generators[0].ifs), 1, name)

    def test_is_stands_beside_none_true_and_false(self):
        for name, node in nodes(ast.Compare):
            if any(isinstance(sign, (ast.Is, ast.IsNot)) for sign in node.ops):
                self.assertIn(getattr(node.comparators[0], "value", 0), (None, True, False), name)

    def test_raised_on_the_spot(self):
        for name, node in nodes(ast.Raise):
            self.assertIsInstance(node.exc, ast.Call, name)


class Names(unittest.TestCase):
    def test_each_name_is_known(self):
        for name, tree in TREES.items():
            known = CALLED + ERRORS + defined(tree) + list(imported(tree)) + bound_within(tree)
            for node in ast.walk(tree):
                if isinstance(node, ast.Name):
                    self.assertIn(node.id, known, name)

    def test_names_are_plain_and_not_taken(self):
        for name, tree in TREES.items():
            taken = dir(builtins) + list(imported(tree)) + ["sys", "os", "gc", "elements", "register"]
            self.assertEqual(len(defined(tree)), len(set(defined(tree))), name)
            for own in defined(tree) + bound_within(tree):
                self.assertRegex(own, r"^[A-Za-z][A-Za-z0-9_]*$", name)
                self.assertNotIn(own, taken, name)
            self.assertEqual(sorted(set(bound_within(tree)) & set(defined(tree))), [], name)

    def test_methods_are_of_the_list_and_called(self):
        called = [id(node.func) for name, node in nodes(ast.Call)]
        for name, node in nodes(ast.Attribute):
            self.assertIn(node.attr, METHODS, name)
            self.assertIn(id(node), called, name)

    def test_pythons_own_are_called(self):
        called = [id(node.func) for name, node in nodes(ast.Call)]
        beside = [id(part) for name, node in nodes(ast.Call) if called_name(node) == "isinstance"
                  for part in ast.walk(node.args[1])]
        for name, node in nodes(ast.Name):
            if node.id in CALLED:
                self.assertIn(id(node), called + beside, f"{name}:{node.lineno}")
        for name, node in nodes(ast.Call):
            for keyword in node.keywords:
                self.assertIn(keyword.arg, KEYWORDS.get(called_name(node), []), f"{name}:{node.lineno}")

    def test_walked_at_once(self):
        walked = [id(node.iter) for name, node in nodes((ast.For, ast.comprehension))]
        walked += [id(part) for name, node in nodes(ast.Call) if called_name(node) in WALKERS for part in node.args]
        for name, node in nodes(ast.Call):
            if called_name(node) in WALKED:
                self.assertIn(id(node), walked, f"{name}:{node.lineno}")
            self.assertNotIn(called_name(node), ("set", "frozenset"), name)
