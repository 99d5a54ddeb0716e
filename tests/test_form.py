"""The form of the program: what of LANGUAGE.md can be seen from the files alone."""

import ast
import os
import re
import unittest

ROOT = os.path.dirname(os.path.dirname(os.path.abspath(__file__)))
PACKAGE = "linechanges"

STATEMENTS = (ast.Assign, ast.AugAssign, ast.If, ast.While, ast.For, ast.Return, ast.Break, ast.Continue, ast.Pass,
              ast.Raise, ast.Try, ast.Expr, ast.FunctionDef, ast.ClassDef, ast.ImportFrom)
OUT = (ast.Set, ast.SetComp, ast.DictComp, ast.GeneratorExp, ast.NamedExpr, ast.Starred, ast.Await, ast.Yield,
       ast.YieldFrom, ast.Div, ast.MatMult, ast.Pow, ast.AnnAssign)
BUILT_IN = set("len range enumerate zip min max sum abs sorted reversed int str bool list tuple dict set frozenset "
               "isinstance ord repr any all divmod Exception ValueError TypeError KeyError IndexError LookupError "
               "ZeroDivisionError ArithmeticError OverflowError RuntimeError NotImplementedError AttributeError "
               "StopIteration".split())
METHODS = set("append clear copy count endswith extend find get index insert isalnum isalpha isdigit islower isspace "
              "isupper items join keys ljust lower lstrip partition pop remove replace reverse rfind rjust rpartition "
              "rsplit rstrip setdefault split splitlines startswith strip update upper values zfill bit_length".split())
TWO_UNDERSCORES = ("__init__", "__eq__", "__repr__", "__str__", "__len__")
WORDS = ("type|typing|typing_extensions|enum|Enum|IntEnum|StrEnum|Flag|IntFlag|Generic|Protocol|ABC|ABCMeta|namedtuple|"
         "NamedTuple|TypedDict|TYPE_CHECKING|abstractmethod")
PYTHONS_OWN = set(dir(__builtins__) if not isinstance(__builtins__, dict) else __builtins__)


def files():
    folder = os.path.join(ROOT, PACKAGE)
    return sorted(name for name in os.listdir(folder) if name != "__pycache__")


def read(name):
    with open(os.path.join(ROOT, PACKAGE, name), "rb") as source:
        return source.read()


def trees():
    return {name: ast.parse(read(name)) for name in files()}


def bound_names(tree):
    """Every name that the file binds somewhere."""
    bound = set()
    for node in ast.walk(tree):
        if isinstance(node, ast.Name) and isinstance(node.ctx, ast.Store):
            bound.add(node.id)
        elif isinstance(node, (ast.FunctionDef, ast.ClassDef)):
            bound.add(node.name)
        elif isinstance(node, ast.arg):
            bound.add(node.arg)
        elif isinstance(node, ast.alias):
            bound.add(node.asname or node.name)
    return bound


def top_names(tree):
    names = []
    for node in tree.body:
        if isinstance(node, (ast.FunctionDef, ast.ClassDef)):
            names.append(node.name)
        elif isinstance(node, ast.ImportFrom):
            names += [alias.asname or alias.name for alias in node.names]
        elif isinstance(node, ast.Assign):
            names += [target.id for target in node.targets]
    return names


class Form(unittest.TestCase):
    def test_files_and_signs(self):
        self.assertIn("__init__.py", files())
        self.assertIn("code.py", files())
        for name in files():
            self.assertRegex(name, r"^[a-z0-9_]+\.py$")
            self.assertNotIn(name[:-3], PYTHONS_OWN)
            self.assertTrue(all(sign == 10 or 32 <= sign <= 126 for sign in read(name)), name)

    def test_size(self):
        for name, tree in trees().items():
            rows = read(name).decode().split("\n")
            self.assertLessEqual(len(rows), 400, name)
            self.assertLessEqual(max(len(row) for row in rows), 120, name)
            for node in ast.walk(tree):
                if isinstance(node, ast.FunctionDef):
                    self.assertLessEqual(node.end_lineno - node.lineno + 1, 40, node.name)

    def test_words_that_stand_nowhere(self):
        for name in files():
            text = read(name).decode()
            self.assertIsNone(re.search(r"\b(" + WORDS + r")\b", text), name)
            self.assertIsNone(re.search("dataclass|overload|contextmanager", text), name)

    def test_imports(self):
        drawn = {}
        for name, tree in trees().items():
            drawn[name] = []
            for node in ast.walk(tree):
                self.assertNotIsInstance(node, ast.Import)
                if isinstance(node, ast.ImportFrom):
                    self.assertIn(node, tree.body)
                    self.assertEqual(node.level, 0)
                    package, source = node.module.split(".")
                    self.assertEqual(package, PACKAGE)
                    defined = [n for n in top_names(trees()[source + ".py"])]
                    for alias in node.names:
                        self.assertIn(alias.name, defined)
                    drawn[name] += [source + ".py", "__init__.py"]
        while drawn:
            free = [name for name in drawn if not any(source in drawn for source in drawn[name])]
            self.assertTrue(free, "files that draw from one another")
            for name in free:
                drawn.pop(name)

    def test_statements_and_expressions(self):
        for name, tree in trees().items():
            for node in ast.walk(tree):
                where = (name, getattr(node, "lineno", 0))
                if isinstance(node, ast.stmt):
                    self.assertIsInstance(node, STATEMENTS, where)
                self.assertNotIsInstance(node, OUT, where)
                if isinstance(node, ast.Assign):
                    self.assertEqual(len(node.targets), 1, where)
                    self.assertNotIsInstance(node.targets[0], (ast.Tuple, ast.List), where)
                if isinstance(node, (ast.For, ast.While)):
                    self.assertEqual(node.orelse, [], where)
                if isinstance(node, ast.Constant):
                    self.assertIsInstance(node.value, (int, str, type(None)), where)
                if isinstance(node, ast.Compare):
                    for sign, right in zip(node.ops, node.comparators):
                        if isinstance(sign, (ast.Is, ast.IsNot)):
                            self.assertIsInstance(right, ast.Constant, where)
                if isinstance(node, (ast.FunctionDef, ast.ClassDef)):
                    self.assertEqual(node.decorator_list, [], where)
                if isinstance(node, ast.arguments):
                    self.assertFalse(node.vararg or node.kwarg or node.kwonlyargs or node.posonlyargs, where)

    def test_names(self):
        for name, tree in trees().items():
            bound = bound_names(tree)
            for word in bound:
                if word not in TWO_UNDERSCORES:
                    self.assertRegex(word, r"^[A-Za-z][A-Za-z0-9_]*$", name)
                self.assertNotIn(word, PYTHONS_OWN, name)
            for node in ast.walk(tree):
                if isinstance(node, ast.Name):
                    self.assertIn(node.id, bound | BUILT_IN, name)

    def test_each_name_once_at_the_top(self):
        for name, tree in trees().items():
            names = top_names(tree)
            self.assertEqual(len(names), len(set(names)), name)
            for node in ast.walk(tree):
                if isinstance(node, ast.FunctionDef):
                    inner = {n.id for n in ast.walk(node) if isinstance(n, ast.Name) and isinstance(n.ctx, ast.Store)}
                    inner |= {n.arg for n in ast.walk(node) if isinstance(n, ast.arg)}
                    self.assertEqual(inner & set(names), set(), (name, node.name))

    def test_methods_and_values_of_objects(self):
        methods, attributes, called = set(), set(), set()
        for tree in trees().values():
            for node in ast.walk(tree):
                if isinstance(node, ast.ClassDef):
                    methods |= {inner.name for inner in node.body if isinstance(inner, ast.FunctionDef)}
                if isinstance(node, ast.Attribute) and isinstance(node.ctx, ast.Store):
                    attributes.add(node.attr)
                if isinstance(node, ast.Attribute) and isinstance(node.ctx, ast.Load):
                    called.add(node.attr)
        self.assertEqual(methods & attributes, set())
        self.assertEqual(called - methods - attributes - METHODS, set())
        pythons = {word for value in (0, "", [], {}, set(), b"", ()) for word in dir(value)}
        self.assertEqual((methods | attributes) & pythons - set(TWO_UNDERSCORES), set())

    def test_the_top_of_a_file(self):
        for name, tree in trees().items():
            self.assertIsNotNone(ast.get_docstring(tree), name)
            for node in tree.body[1:]:
                self.assertIsInstance(node, (ast.ImportFrom, ast.FunctionDef, ast.ClassDef, ast.Assign), name)


if __name__ == "__main__":
    unittest.main()
