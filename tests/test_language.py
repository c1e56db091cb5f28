"""The package's own files keep to the small part of Python that the program is written in."""

import ast
import pathlib
import re
import unittest

PACKAGE = pathlib.Path(__file__).resolve().parent.parent / "dependrules"
FILES = sorted(PACKAGE.rglob("*.py"))

STATEMENTS = (ast.Assign, ast.AugAssign, ast.If, ast.While, ast.For, ast.Return, ast.Break, ast.Continue, ast.Pass,
              ast.Raise, ast.Try, ast.Expr, ast.FunctionDef, ast.ClassDef, ast.ImportFrom)
NOT_USED = (ast.Set, ast.SetComp, ast.DictComp, ast.GeneratorExp, ast.NamedExpr, ast.Starred, ast.Div, ast.MatMult,
            ast.Await, ast.Yield, ast.YieldFrom)
OWN_NAMES = """len range enumerate zip min max sum abs sorted reversed int str bool list tuple dict set isinstance ord
    repr any all divmod""".split()
METHODS = """append clear copy count endswith extend find get index insert isalnum isalpha isdigit islower isspace
    isupper items join keys ljust lower lstrip partition pop remove replace reverse rfind rjust rpartition rsplit
    rstrip setdefault split splitlines startswith strip update upper values zfill bit_length""".split()
WORDS_NOWHERE = re.compile(r"""\b(type|typing|typing_extensions|enum|Enum|IntEnum|StrEnum|Flag|IntFlag|Generic|Protocol
    |ABC|ABCMeta|namedtuple|NamedTuple|TypedDict|TYPE_CHECKING|abstractmethod)\b
    |dataclass|overload|contextmanager""", re.VERBOSE)


def bound_names(tree):
    """All names that a file gives a meaning."""
    names = []
    for node in ast.walk(tree):
        if isinstance(node, ast.Name) and isinstance(node.ctx, ast.Store):
            names.append(node.id)
        if isinstance(node, (ast.FunctionDef, ast.ClassDef)):
            names.append(node.name)
        if isinstance(node, ast.arg):
            names.append(node.arg)
        if isinstance(node, ast.alias):
            names.append(node.name)
    return names


class Language(unittest.TestCase):
    def each(self):
        for path in FILES:
            yield path, path.read_text(encoding="utf-8"), ast.parse(path.read_text(encoding="utf-8"))

    def test_files(self):
        self.assertIn(PACKAGE / "__init__.py", FILES)
        others = [path for path in PACKAGE.rglob("*") if "__pycache__" not in path.parts and path not in FILES]
        self.assertEqual(others, [])
        for path in FILES:
            self.assertRegex(path.name, r"^(__init__|[a-z][a-z0-9_]*)\.py$")

    def test_size_and_signs(self):
        for path, words, tree in self.each():
            rows = words.split("\n")
            self.assertLessEqual(len(rows), 400, path)
            self.assertLessEqual(max(len(row) for row in rows), 120, path)
            self.assertRegex(words, r"\A[ -~\n]*\Z", path)
            self.assertIsNone(WORDS_NOWHERE.search(words), path)
            for node in ast.walk(tree):
                if isinstance(node, ast.FunctionDef):
                    self.assertLessEqual(node.end_lineno - node.lineno + 1, 40, (path, node.name))

    def test_statements_and_expressions(self):
        for path, words, tree in self.each():
            for node in ast.walk(tree):
                where = (path, getattr(node, "lineno", 0))
                if isinstance(node, ast.stmt):
                    self.assertIsInstance(node, STATEMENTS, where)
                self.assertNotIsInstance(node, NOT_USED, where)
                if isinstance(node, ast.Assign):
                    self.assertEqual(len(node.targets), 1, where)
                    self.assertNotIsInstance(node.targets[0], (ast.Tuple, ast.List), where)
                if isinstance(node, (ast.For, ast.While)):
                    self.assertEqual(node.orelse, [], where)
                if isinstance(node, ast.Constant):
                    self.assertIn(type(node.value), (int, str, bool, type(None)), where)
                if isinstance(node, ast.ListComp):
                    self.assertEqual(len(node.generators), 1, where)
                if isinstance(node, (ast.FunctionDef, ast.ClassDef)):
                    self.assertEqual(node.decorator_list, [], where)

    def test_imports(self):
        for path, words, tree in self.each():
            for node in ast.walk(tree):
                if isinstance(node, ast.ImportFrom):
                    self.assertIn(node, tree.body, path)
                    self.assertRegex(node.module, r"^dependrules\.[a-z]+$")
                    defined = bound_names(ast.parse((PACKAGE / (node.module[12:] + ".py")).read_text()))
                    for alias in node.names:
                        self.assertIn(alias.name, defined, path)

    def test_top_of_a_file(self):
        plain = (ast.Constant, ast.Tuple, ast.Dict, ast.List, ast.UnaryOp, ast.USub, ast.Name, ast.Load)
        for path, words, tree in self.each():
            functions = [node.name for node in tree.body if isinstance(node, ast.FunctionDef)]
            bound = []
            for node in tree.body:
                if isinstance(node, ast.Assign):
                    bound.append(node.targets[0].id)
                    for part in ast.walk(node.value):
                        self.assertIsInstance(part, plain, path)
                        if isinstance(part, ast.Name):
                            self.assertIn(part.id, functions, path)
                elif isinstance(node, ast.Expr):
                    self.assertIs(node, tree.body[0], path)
            self.assertEqual(len(set(bound)), len(bound), path)

    def test_names_and_methods(self):
        for path, words, tree in self.each():
            bound = bound_names(tree)
            for name in bound:
                self.assertRegex(name, r"^([A-Za-z][A-Za-z0-9_]*|__init__)$", path)
                self.assertNotIn(name, dir(__builtins__) if not isinstance(__builtins__, dict) else __builtins__, path)
            for node in ast.walk(tree):
                if isinstance(node, ast.Name) and isinstance(node.ctx, ast.Load):
                    self.assertIn(node.id, bound + OWN_NAMES, path)
                if isinstance(node, ast.Call) and isinstance(node.func, ast.Attribute):
                    self.assertIn(node.func.attr, METHODS, path)


if __name__ == "__main__":
    unittest.main()
