"""The package keeps to a small part of Python: what of that can be seen in its files."""

import ast
import builtins
import pathlib
import re
import unittest

PACKAGE = pathlib.Path(__file__).resolve().parent.parent / "piecelines"

STATEMENTS = (ast.Assign, ast.AugAssign, ast.If, ast.While, ast.For, ast.Return, ast.Break, ast.Continue, ast.Pass,
              ast.Raise, ast.Try, ast.Expr, ast.FunctionDef, ast.ClassDef, ast.ImportFrom)

EXPRESSIONS = (ast.Constant, ast.List, ast.Tuple, ast.Dict, ast.BinOp, ast.UnaryOp, ast.Compare, ast.BoolOp, ast.IfExp,
               ast.Call, ast.Attribute, ast.Subscript, ast.Slice, ast.ListComp, ast.Name, ast.JoinedStr,
               ast.FormattedValue)

OWN_OF_PYTHON = set("""len range enumerate zip min max sum abs sorted reversed int str bool list tuple dict set frozenset
isinstance ord repr any all divmod Exception ValueError KeyError ZeroDivisionError""".split())

METHODS = set("""append clear copy count endswith extend find get index insert isalnum isalpha isdigit islower isspace
isupper items join keys ljust lower lstrip partition pop remove replace reverse rfind rjust rpartition rsplit rstrip
setdefault split splitlines startswith strip update upper values zfill bit_length""".split())

FREE_VALUES = set("count index title find get join lower upper split strip copy add".split())

NEVER_NAMES = set("""register mro elements open input version_info with_traceback add_note attrgetter breakpoint builtins
compile copyright credits delattr dir eval exec exit gc getattr globals hasattr help id importlib license locals
methodcaller os quit setattr super type vars sys format format_map""".split())

NEVER_WORDS = re.compile(
    r"\b(type|typing|typing_extensions|enum|Enum|IntEnum|StrEnum|Flag|IntFlag|Generic|Protocol|ABC|ABCMeta|namedtuple"
    r"|NamedTuple|TypedDict|TYPE_CHECKING|abstractmethod)\b|dataclass|overload|contextmanager")

WALKED = ("zip", "enumerate", "reversed", "range")


def files():
    return sorted(path for path in PACKAGE.rglob("*") if "__pycache__" not in path.parts)


def trees():
    return {path.stem: ast.parse(path.read_text()) for path in files()}


def top_names(tree):
    names = []
    for node in tree.body:
        if isinstance(node, (ast.FunctionDef, ast.ClassDef)):
            names.append(node.name)
        elif isinstance(node, ast.Assign):
            names.extend(target.id for target in node.targets)
        elif isinstance(node, ast.ImportFrom):
            names.extend(alias.name for alias in node.names)
    return names


def functions(tree):
    return [node for node in ast.walk(tree) if isinstance(node, ast.FunctionDef)]


def bound_in(function):
    names = [arg.arg for arg in function.args.args]
    names.extend(node.id for node in ast.walk(function) if isinstance(node, ast.Name) and isinstance(node.ctx, ast.Store))
    return names


class FormTest(unittest.TestCase):
    def test_files(self):
        for path in files():
            self.assertRegex(path.name, r"^([a-z][a-z0-9_]*|__init__|__main__)\.py$")
            text = path.read_text()
            self.assertRegex(text, r"\A[ -~\n]*\Z")
            self.assertIsNone(NEVER_WORDS.search(text), path.name)
            self.assertLessEqual(len(text.splitlines()), 400)
            self.assertLessEqual(max(len(line) for line in text.splitlines()), 120)

    def test_imports(self):
        given = trees()
        drawn = {}
        for stem, tree in given.items():
            drawn[stem] = []
            for node in [node for node in ast.walk(tree) if isinstance(node, (ast.Import, ast.ImportFrom))]:
                self.assertIsInstance(node, ast.ImportFrom)
                self.assertIn(node, tree.body)
                package, part, source = node.module.partition(".")
                self.assertEqual((package, node.level), ("piecelines", 0))
                drawn[stem].append(source)
                defined = [n for n in top_names(given[source]) if n not in imported(given[source])]
                self.assertEqual([alias.name for alias in node.names if alias.name not in defined or alias.asname], [])
        self.assertEqual(drawn["__init__"], [])
        while drawn:
            free = [stem for stem in drawn if not [source for source in drawn[stem] if source in drawn]]
            self.assertNotEqual(free, [], "files draw from one another")
            drawn = {stem: sources for stem, sources in drawn.items() if stem not in free}

    def test_statements_and_expressions(self):
        for stem, tree in trees().items():
            for node in ast.walk(tree):
                place = (stem, getattr(node, "lineno", 0))
                if isinstance(node, ast.stmt):
                    self.assertIsInstance(node, STATEMENTS, place)
                if isinstance(node, ast.expr):
                    self.assertIsInstance(node, EXPRESSIONS, place)
                self.check_node(node, place)

    def check_node(self, node, place):
        if isinstance(node, ast.Constant):
            self.assertTrue(node.value is None or isinstance(node.value, (int, str)), place)
            self.assertFalse(isinstance(node.value, str) and "%" in node.value, place)
        if isinstance(node, ast.Assign):
            self.assertEqual(len(node.targets), 1, place)
            self.assertNotIsInstance(node.targets[0], ast.Tuple, place)
        if isinstance(node, (ast.For, ast.While)):
            self.assertEqual(node.orelse, [], place)
        if isinstance(node, ast.ListComp):
            self.assertEqual(len(node.generators), 1, place)
            self.assertLessEqual(len(node.generators[0].ifs), 1, place)
        if isinstance(node, ast.BinOp):
            self.assertNotIsInstance(node.op, ast.Div, place)
            if isinstance(node.op, ast.Pow):
                self.assertIsInstance(node.right, ast.Constant, place)
        if isinstance(node, ast.Compare):
            for way, side in zip(node.ops, node.comparators):
                if isinstance(way, (ast.Is, ast.IsNot)):
                    self.assertIsInstance(side, ast.Constant, place)
        if isinstance(node, ast.Expr):
            self.assertIsInstance(node.value, (ast.Call, ast.Constant), place)

    def test_tops(self):
        for stem, tree in trees().items():
            self.assertIsNotNone(ast.get_docstring(tree), stem)
            names = top_names(tree)
            self.assertEqual(len(names), len(set(names)), stem)
            for node in tree.body[1:]:
                self.assertIsInstance(node, (ast.ImportFrom, ast.FunctionDef, ast.ClassDef, ast.Assign), stem)

    def test_functions(self):
        for stem, tree in trees().items():
            for node in functions(tree):
                self.assertLessEqual(node.end_lineno - node.lineno + 1, 40, node.name)
                self.assertEqual((node.decorator_list, node.args.vararg, node.args.kwarg, node.args.kwonlyargs),
                                 ([], None, None, []), node.name)
                taken = [name for name in bound_in(node) if hasattr(builtins, name) or name in top_names(tree)]
                self.assertEqual(taken, [], (stem, node.name))

    def test_names(self):
        for stem, tree in trees().items():
            known = set(top_names(tree)) | OWN_OF_PYTHON
            for function in functions(tree):
                known |= set(bound_in(function))
            for node in [node for node in ast.walk(tree) if isinstance(node, ast.Name)]:
                self.assertIn(node.id, known, (stem, node.lineno))
                self.assertNotIn(node.id, NEVER_NAMES, (stem, node.lineno))
                self.assertFalse(node.id.startswith("_"), (stem, node.lineno))

    def test_methods_and_values(self):
        python_has = set()
        for value in ("", 0, [], {}, set(), b"", ()):
            python_has |= set(dir(value))
        for stem, tree in trees().items():
            called = [node.func for node in ast.walk(tree) if isinstance(node, ast.Call)]
            for node in [node for node in ast.walk(tree) if isinstance(node, ast.Attribute)]:
                if node in called:
                    self.assertIn(node.attr, METHODS, (stem, node.lineno))
                else:
                    self.assertNotIn(node.attr, (python_has - FREE_VALUES) | NEVER_NAMES, (stem, node.lineno))

    def test_walked_at_once(self):
        for stem, tree in trees().items():
            walks = [node.iter for node in ast.walk(tree) if isinstance(node, (ast.For, ast.comprehension))]
            for node in [node for node in ast.walk(tree) if isinstance(node, ast.Call)]:
                if isinstance(node.func, ast.Name) and node.func.id in WALKED:
                    self.assertIn(node, walks, (stem, node.lineno))
                if isinstance(node.func, ast.Attribute) and node.func.attr in ("items", "keys", "values"):
                    self.assertIn(node, walks, (stem, node.lineno))

    def test_classes_have_beginnings_alone(self):
        for stem, tree in trees().items():
            for node in [node for node in ast.walk(tree) if isinstance(node, ast.ClassDef)]:
                self.assertIn(node, tree.body)
                self.assertEqual([part.name for part in node.body], ["__init__"], node.name)


def imported(tree):
    return [alias.name for node in tree.body if isinstance(node, ast.ImportFrom) for alias in node.names]


if __name__ == "__main__":
    unittest.main()
