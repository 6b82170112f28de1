"""The form of the package's files: what of LANGUAGE.md can be seen file by file."""

import ast
import builtins
import pathlib
import re
import unittest

PACKAGE = pathlib.Path(__file__).resolve().parent.parent / "mixkeep"

STATEMENTS = (
    ast.FunctionDef, ast.ClassDef, ast.ImportFrom, ast.Assign, ast.AugAssign, ast.If, ast.While, ast.For, ast.Return,
    ast.Break, ast.Continue, ast.Pass, ast.Raise, ast.Try, ast.Expr,
)
EXPRESSIONS = (
    ast.Constant, ast.Name, ast.List, ast.Tuple, ast.Dict, ast.BinOp, ast.UnaryOp, ast.BoolOp, ast.Compare, ast.IfExp,
    ast.Call, ast.Attribute, ast.Subscript, ast.Slice, ast.ListComp, ast.JoinedStr, ast.FormattedValue, ast.Lambda,
)
OWN_NAMES = (
    "len range enumerate zip min max sum abs sorted reversed int str bool list tuple dict set frozenset isinstance ord "
    "repr any all divmod Exception ValueError TypeError KeyError IndexError LookupError ZeroDivisionError "
    "ArithmeticError OverflowError RuntimeError NotImplementedError AttributeError StopIteration"
).split()
METHODS = (
    "append clear copy count endswith extend find get index insert isalnum isalpha isdigit islower isspace isupper "
    "items join keys ljust lower lstrip partition pop remove replace reverse rfind rjust rpartition rsplit rstrip "
    "setdefault split splitlines startswith strip update upper values zfill bit_length"
).split()
DUNDER_METHODS = ("__init__", "__eq__", "__repr__", "__str__", "__len__")
WORDS_OUT = (
    "type typing typing_extensions enum Enum IntEnum StrEnum Flag IntFlag Generic Protocol ABC ABCMeta namedtuple "
    "NamedTuple TypedDict TYPE_CHECKING abstractmethod"
).split()
PYTHONS_NAMES = dir(builtins)
WALKED = ("zip", "enumerate", "reversed", "range")
VIEWS = ("items", "keys", "values")
WALKERS = ("list", "tuple", "dict", "sorted", "sum", "any", "all", "enumerate", "zip", "min", "max")


def files():
    return sorted(path for path in PACKAGE.iterdir() if path.name != "__pycache__")


def trees():
    return [(path, ast.parse(path.read_text(encoding="ascii"))) for path in files()]


def nodes(kinds):
    return [(path, node) for path, tree in trees() for node in ast.walk(tree) if isinstance(node, kinds)]


def is_text(node):
    return isinstance(node, ast.Constant) and isinstance(node.value, str)


def top_names(tree):
    found = []
    for node in tree.body:
        if isinstance(node, (ast.FunctionDef, ast.ClassDef)):
            found.append(node.name)
        if isinstance(node, ast.Assign):
            found.append(node.targets[0].id)
    return found


class Files(unittest.TestCase):
    def test_names(self):
        self.assertIn("__init__.py", [path.name for path in files()])
        for path in files():
            self.assertRegex(path.name, r"^[a-z][a-z0-9_]*\.py$|^__init__\.py$|^__main__\.py$")
            self.assertNotIn(path.stem, PYTHONS_NAMES)

    def test_signs_and_sizes(self):
        for path in files():
            text = path.read_bytes().decode("ascii")
            self.assertRegex(text, r"\A[ -~\n]*\Z", path.name)
            self.assertLessEqual(text.count("\n"), 400, path.name)
            self.assertLessEqual(max(len(line) for line in text.split("\n")), 120, path.name)

    def test_words(self):
        for path in files():
            text = path.read_text(encoding="ascii")
            self.assertFalse(set(re.findall(r"\w+", text)) & set(WORDS_OUT), path.name)
            self.assertIsNone(re.search("dataclass|overload|contextmanager", text), path.name)


class Tops(unittest.TestCase):
    def test_what_stands_there(self):
        for path, tree in trees():
            self.assertIsNotNone(ast.get_docstring(tree), path.name)
            for node in tree.body[1:]:
                self.assertIsInstance(node, (ast.ImportFrom, ast.FunctionDef, ast.ClassDef, ast.Assign), path.name)
            self.assertEqual(len(top_names(tree)), len(set(top_names(tree))), path.name)

    def test_imports(self):
        drawn = {}
        for path, tree in trees():
            rows = [node for node in ast.walk(tree) if isinstance(node, ast.ImportFrom)]
            drawn[path.stem] = [row.module.split(".")[1] for row in rows]
            for row in rows:
                self.assertIn(row, tree.body, path.name)
                self.assertEqual((row.level, row.module.split(".")[0]), (0, "mixkeep"), path.name)
                source = ast.parse((PACKAGE / (row.module.split(".")[1] + ".py")).read_text())
                for name in row.names:
                    self.assertIn(name.name, top_names(source), path.name)
        while drawn:
            free = [stem for stem in drawn if not set(drawn[stem]) & set(drawn)]
            self.assertTrue(free, drawn)
            drawn = {stem: drawn[stem] for stem in drawn if stem not in free}

    def test_classes(self):
        for path, node in nodes(ast.ClassDef):
            self.assertLessEqual(len(node.bases), 1, path.name)
            self.assertFalse(node.decorator_list or node.keywords, path.name)
            for part in node.body:
                docstring = isinstance(part, ast.Expr) and is_text(part.value)
                self.assertTrue(docstring or isinstance(part, (ast.FunctionDef, ast.Pass)), path.name)


class Steps(unittest.TestCase):
    def test_functions(self):
        for path, node in nodes(ast.FunctionDef):
            place = f"{path.name} {node.name}"
            self.assertLessEqual(node.end_lineno - node.lineno + 1, 40, place)
            self.assertFalse(node.decorator_list, place)
            handed = node.args
            self.assertFalse(handed.vararg or handed.kwarg or handed.kwonlyargs or handed.posonlyargs, place)
            for default in handed.defaults:
                self.assertIsInstance(default, ast.Constant, place)
            for argument in handed.args:
                self.assertNotIn(argument.arg, PYTHONS_NAMES, place)

    def test_statements_and_expressions(self):
        for path, node in nodes((ast.stmt, ast.expr)):
            place = f"{path.name} {node.lineno}: {ast.dump(node)}"
            self.assertIsInstance(node, STATEMENTS + EXPRESSIONS, place)
            if isinstance(node, ast.Expr):
                self.assertTrue(isinstance(node.value, ast.Call) or is_text(node.value), place)
            if isinstance(node, ast.Assign):
                self.assertEqual(len(node.targets), 1, place)
            if isinstance(node, (ast.For, ast.While)):
                self.assertFalse(node.orelse, place)
            if isinstance(node, ast.ListComp):
                self.assertEqual(len(node.generators), 1, place)
                self.assertLessEqual(len(node.generators[0].ifs), 1, place)
            if isinstance(node, (ast.BinOp, ast.AugAssign)):
                self.assertNotIsInstance(node.op, (ast.Div, ast.MatMult), place)
            if isinstance(node, ast.Constant):
                self.assertIn(type(node.value), (int, str, bool, type(None)), place)
                self.assertNotIn("%", str(node.value), place)

    def test_names(self):
        for path, node in nodes(ast.Name):
            place = f"{path.name} {node.lineno}: {node.id}"
            self.assertFalse(node.id.startswith("_"), place)
            if isinstance(node.ctx, ast.Store):
                self.assertNotIn(node.id, PYTHONS_NAMES, place)
            elif node.id in PYTHONS_NAMES:
                self.assertIn(node.id, OWN_NAMES, place)

    def test_methods(self):
        own = [node.name for path, node in nodes(ast.FunctionDef)]
        for name in own:
            self.assertTrue(name in DUNDER_METHODS or not name.startswith("_"), name)
        for path, node in nodes(ast.Call):
            if isinstance(node.func, ast.Attribute):
                self.assertIn(node.func.attr, METHODS + own, f"{path.name} {node.lineno}")

    def test_is(self):
        for path, node in nodes(ast.Compare):
            sides = [node.left] + node.comparators
            for number, operator in enumerate(node.ops):
                if isinstance(operator, (ast.Is, ast.IsNot)):
                    beside = sides[number + 1]
                    self.assertTrue(isinstance(beside, ast.Constant), f"{path.name} {node.lineno}")
                    self.assertIn(beside.value, (None, True, False), f"{path.name} {node.lineno}")

    def test_f_strings(self):
        for path, node in nodes(ast.FormattedValue):
            self.assertIsInstance(node.value, ast.Name, f"{path.name} {node.lineno}")
            self.assertIsNone(node.format_spec, f"{path.name} {node.lineno}")

    def test_walked_at_once(self):
        """What is walked stands behind an `in`, or within a call that walks it."""
        for path, tree in trees():
            walked = [node.iter for node in ast.walk(tree) if isinstance(node, (ast.For, ast.comprehension))]
            for node in ast.walk(tree):
                if isinstance(node, ast.Call) and isinstance(node.func, ast.Name) and node.func.id in WALKERS:
                    walked.extend(node.args[:1])
            for node in ast.walk(tree):
                if isinstance(node, ast.Call) and isinstance(node.func, ast.Name) and node.func.id in WALKED:
                    self.assertIn(node, walked, f"{path.name} {node.lineno}")
                if isinstance(node, ast.Call) and isinstance(node.func, ast.Attribute) and node.func.attr in VIEWS:
                    self.assertIn(node, walked, f"{path.name} {node.lineno}")

    def test_sets(self):
        """A set is asked on the spot."""
        for path, tree in trees():
            asked = []
            for node in ast.walk(tree):
                if isinstance(node, ast.Compare):
                    asked.extend([node.left] + node.comparators)
                if isinstance(node, ast.Call) and isinstance(node.func, ast.Name) and node.func.id in ("sorted", "len"):
                    asked.extend(node.args)
            for node in ast.walk(tree):
                if isinstance(node, ast.Call) and isinstance(node.func, ast.Name):
                    if node.func.id in ("set", "frozenset"):
                        self.assertIn(node, asked, f"{path.name} {node.lineno}")

    def test_locals(self):
        """No local or parameter is called like a class or an import of its file."""
        for path, tree in trees():
            taken = [node.name for node in tree.body if isinstance(node, ast.ClassDef)]
            for node in tree.body:
                if isinstance(node, ast.ImportFrom):
                    taken.extend(name.asname or name.name for name in node.names)
            for node in ast.walk(tree):
                if isinstance(node, ast.Name) and isinstance(node.ctx, ast.Store):
                    self.assertNotIn(node.id, taken, f"{path.name} {node.lineno}")
                if isinstance(node, ast.arg):
                    self.assertNotIn(node.arg, taken, f"{path.name} {node.lineno}")

    def test_values_of_objects(self):
        """No name is a method in one class and a value in another, nor a value called like a method of Python's own."""
        methods = {part.name for path, node in nodes(ast.ClassDef) for part in node.body if hasattr(part, "name")}
        values = {node.attr for path, node in nodes(ast.Attribute) if isinstance(node.ctx, ast.Store)}
        self.assertFalse(methods & values)
        for kind in (str, int, list, dict, set, bytes, tuple):
            self.assertFalse(values & set(dir(kind)), kind)
            self.assertFalse((methods - set(DUNDER_METHODS)) & set(dir(kind)), kind)


if __name__ == "__main__":
    unittest.main()
