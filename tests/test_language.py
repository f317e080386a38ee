"""The rules of the program's form that can be seen from the package's files alone."""

import ast
import pathlib
import re
import unittest

PACKAGE = pathlib.Path(__file__).resolve().parent.parent / "tubebook"

STATEMENTS = (
    ast.Assign, ast.AugAssign, ast.If, ast.While, ast.For, ast.Return, ast.Break, ast.Continue, ast.Pass, ast.Raise,
    ast.Try, ast.Expr, ast.FunctionDef, ast.ClassDef, ast.ImportFrom,
)
NOT_USED = (
    ast.GeneratorExp, ast.SetComp, ast.DictComp, ast.NamedExpr, ast.Starred, ast.Set, ast.Div, ast.Await, ast.Yield,
    ast.AnnAssign,
)
OWN_NAMES = (
    "len range enumerate zip min max sum abs sorted reversed int str bool list tuple dict set frozenset isinstance "
    "ord repr any all divmod Exception ValueError TypeError KeyError IndexError LookupError ZeroDivisionError "
    "ArithmeticError OverflowError RuntimeError NotImplementedError AttributeError StopIteration"
).split()
OWN_METHODS = (
    "append clear copy count endswith extend find get index insert isalnum isalpha isdigit islower isspace isupper "
    "items join keys ljust lower lstrip partition pop remove replace reverse rfind rjust rpartition rsplit rstrip "
    "setdefault split splitlines startswith strip update upper values zfill bit_length"
).split()
WORDS = (
    "type typing typing_extensions enum Enum IntEnum StrEnum Flag IntFlag Generic Protocol ABC ABCMeta namedtuple "
    "NamedTuple TypedDict TYPE_CHECKING abstractmethod"
).split()
BUILT_IN = list(vars(__import__("builtins")))


def files():
    return sorted(path for path in PACKAGE.rglob("*") if "__pycache__" not in path.parts and path.is_file())


def names_bound(tree):
    found = []
    for node in ast.walk(tree):
        if isinstance(node, (ast.FunctionDef, ast.ClassDef)):
            found.append(node.name)
        elif isinstance(node, ast.arg):
            found.append(node.arg)
        elif isinstance(node, ast.Name) and isinstance(node.ctx, ast.Store):
            found.append(node.id)
        elif isinstance(node, ast.alias):
            found.append(node.asname or node.name)
    return found


def is_plain(node):
    if isinstance(node, ast.UnaryOp) and isinstance(node.op, ast.USub):
        return isinstance(node.operand, ast.Constant)
    if isinstance(node, (ast.Tuple, ast.List)):
        return all(is_plain(part) for part in node.elts)
    return isinstance(node, ast.Constant) and not isinstance(node.value, (float, bytes))


class Language(unittest.TestCase):
    def each(self):
        for path in files():
            text = path.read_text("ascii")
            yield path, text, ast.parse(text)

    def test_files(self):
        self.assertIn("__init__.py", [path.name for path in files()])
        for path in files():
            self.assertRegex(path.name, r"^[a-z][a-z0-9_]*\.py$|^__init__\.py$")
            self.assertNotIn(path.stem, BUILT_IN)

    def test_signs_and_sizes(self):
        for path, text, tree in self.each():
            rows = text.split("\n")
            self.assertLessEqual(len(rows), 401)
            self.assertTrue(all(len(row) <= 120 for row in rows))
            self.assertRegex(text, r"\A[ -~\n]*\Z")
            for node in ast.walk(tree):
                if isinstance(node, ast.FunctionDef):
                    self.assertLessEqual(node.end_lineno - node.lineno + 1, 40, node.name)

    def test_words(self):
        for path, text, tree in self.each():
            for word in re.findall(r"[A-Za-z0-9_]+", text):
                self.assertNotIn(word, WORDS)
                self.assertNotRegex(word, "dataclass|overload|contextmanager")

    def test_the_top_of_each_file(self):
        for path, text, tree in self.each():
            bound = []
            for node in tree.body:
                self.assertIsInstance(node, (ast.Expr, ast.ImportFrom, ast.FunctionDef, ast.ClassDef, ast.Assign))
                if isinstance(node, ast.Expr):
                    self.assertIsInstance(node.value, ast.Constant)
                if isinstance(node, ast.Assign):
                    self.assertTrue(is_plain(node.value), ast.unparse(node))
                    bound.append(node.targets[0].id)
                if isinstance(node, ast.ImportFrom):
                    self.assertEqual(node.level, 0)
                    self.assertRegex(node.module, r"^tubebook\.[a-z]+$")
                    bound.extend(part.name for part in node.names)
                if isinstance(node, (ast.FunctionDef, ast.ClassDef)):
                    bound.append(node.name)
            self.assertEqual(len(bound), len(set(bound)))

    def test_statements_and_expressions(self):
        for path, text, tree in self.each():
            for node in ast.walk(tree):
                self.assertNotIsInstance(node, NOT_USED)
                if isinstance(node, ast.stmt):
                    self.assertIsInstance(node, STATEMENTS)
                if isinstance(node, ast.Assign):
                    self.assertEqual(len(node.targets), 1)
                if isinstance(node, (ast.For, ast.While)):
                    self.assertEqual(node.orelse, [])
                if isinstance(node, ast.Constant):
                    self.assertNotIsInstance(node.value, (float, bytes, complex))
                if isinstance(node, ast.Constant) and isinstance(node.value, str):
                    self.assertNotIn("%", node.value)
                if isinstance(node, ast.FunctionDef):
                    self.assertEqual(node.decorator_list, [])
                    self.assertIsNone(node.args.vararg or node.args.kwarg or node.returns)

    def test_is_stands_beside_none_true_and_false_alone(self):
        for path, text, tree in self.each():
            for node in ast.walk(tree):
                if isinstance(node, ast.Compare) and any(isinstance(op, (ast.Is, ast.IsNot)) for op in node.ops):
                    self.assertIn(ast.unparse(node.comparators[0]), ("None", "True", "False"))

    def test_classes_hold_methods_alone(self):
        for path, text, tree in self.each():
            for node in ast.walk(tree):
                if isinstance(node, ast.ClassDef):
                    self.assertEqual(node.decorator_list + node.keywords, [])
                    self.assertTrue(all(isinstance(part, ast.FunctionDef) for part in node.body), node.name)

    def test_what_is_walked_at_once_is_not_kept(self):
        for path, text, tree in self.each():
            for node in ast.walk(tree):
                kept = node.value if isinstance(node, (ast.Assign, ast.Return)) else None
                if isinstance(kept, ast.Call):
                    called = kept.func.attr if isinstance(kept.func, ast.Attribute) else kept.func.id
                    self.assertNotIn(called, ("zip", "enumerate", "reversed", "range", "items", "keys", "values"))

    def test_names(self):
        for path, text, tree in self.each():
            for name in names_bound(tree):
                if name != "__init__":
                    self.assertRegex(name, r"^[A-Za-z][A-Za-z0-9_]*$")
                    self.assertNotIn(name, BUILT_IN)
            bound = names_bound(tree)
            for node in ast.walk(tree):
                if isinstance(node, ast.Name) and node.id not in bound:
                    self.assertIn(node.id, OWN_NAMES)

    def test_locals_are_not_called_like_imports_or_classes(self):
        for path, text, tree in self.each():
            taken = [part.name for node in tree.body if isinstance(node, ast.ImportFrom) for part in node.names]
            taken += [node.name for node in tree.body if isinstance(node, ast.ClassDef)]
            inner = [name for node in tree.body if isinstance(node, (ast.FunctionDef, ast.ClassDef))
                     for part in node.body for name in names_bound(part)]
            inner += [part.arg for node in ast.walk(tree) if isinstance(node, ast.FunctionDef)
                      for part in node.args.args]
            for name in inner:
                self.assertNotIn(name, taken)

    def test_methods_and_values(self):
        methods = {}
        values = {}
        for path, text, tree in self.each():
            for node in ast.walk(tree):
                if isinstance(node, ast.ClassDef):
                    methods.update({part.name: True for part in node.body})
                if isinstance(node, ast.Attribute) and isinstance(node.ctx, ast.Store):
                    values[node.attr] = True
        pythons = [name for kind in (str, int, list, dict, set, bytes) for name in vars(kind)]
        for name in list(methods) + list(values):
            if name != "__init__":
                self.assertNotIn(name, pythons)
        self.assertEqual([name for name in methods if name in values], [])
        for path, text, tree in self.each():
            for node in ast.walk(tree):
                if isinstance(node, ast.Call) and isinstance(node.func, ast.Attribute):
                    self.assertIn(node.func.attr, OWN_METHODS + list(methods))

    def test_no_two_files_draw_from_one_another(self):
        drawn = {}
        for path, text, tree in self.each():
            drawn["tubebook." + path.stem] = [
                node.module for node in tree.body if isinstance(node, ast.ImportFrom)
            ]
        free = []
        while len(free) < len(drawn):
            more = [name for name in drawn if name not in free and all(part in free for part in drawn[name])]
            self.assertNotEqual(more, [])
            free += more


if __name__ == "__main__":
    unittest.main()
