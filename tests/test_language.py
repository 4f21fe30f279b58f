"""Point 1 (no clock, chance or files) and the rules of the language that a short look can check."""

import ast
import builtins
import os
import re
import unittest

import piecebounds

FOLDER = os.path.dirname(piecebounds.__file__)

BUILTINS = set("""
    len range enumerate zip min max sum abs sorted reversed int str bool bytes list tuple dict set frozenset
    isinstance ord repr any all divmod Exception ValueError TypeError KeyError IndexError LookupError
    ZeroDivisionError ArithmeticError OverflowError RuntimeError NotImplementedError AttributeError StopIteration
""".split())

BARRED_WORDS = re.compile(r"\b(type|typing|typing_extensions|enum|Enum|IntEnum|StrEnum|Flag|IntFlag|Generic|Protocol"
                          r"|ABC|ABCMeta|namedtuple|NamedTuple|TypedDict|TYPE_CHECKING|abstractmethod)\b"
                          r"|dataclass|overload|contextmanager")

BARRED_NODES = (ast.With, ast.Match, ast.Global, ast.Nonlocal, ast.Yield, ast.YieldFrom, ast.AsyncFunctionDef,
                ast.Await, ast.GeneratorExp, ast.NamedExpr, ast.Div, ast.Import)


def sources():
    for name in sorted(os.listdir(FOLDER)):
        if name.endswith(".py"):
            with open(os.path.join(FOLDER, name), encoding="utf-8") as file:
                yield name, file.read()


def bound_names(tree):
    """All names that a file gives a meaning to."""
    names = set()
    for node in ast.walk(tree):
        if isinstance(node, (ast.FunctionDef, ast.ClassDef)):
            names.add(node.name)
        elif isinstance(node, ast.arg):
            names.add(node.arg)
        elif isinstance(node, ast.Name) and isinstance(node.ctx, ast.Store):
            names.add(node.id)
        elif isinstance(node, ast.ImportFrom):
            names.update(alias.asname or alias.name for alias in node.names)
    return names


class Language(unittest.TestCase):
    def test_the_folder_contains_plain_files_only(self):
        for name in os.listdir(FOLDER):
            if name != "__pycache__":
                self.assertRegex(name, r"\A([a-z][a-z0-9_]*|__init__)\.py\Z")

    def test_sizes_and_signs(self):
        for name, text in sources():
            with self.subTest(name=name):
                self.assertLessEqual(len(text.splitlines()), 400)
                self.assertLessEqual(max(map(len, text.splitlines()), default=0), 120)
                self.assertRegex(text, r"\A[ -~\n]*\Z")
                self.assertIsNone(BARRED_WORDS.search(text))

    def test_functions_are_short(self):
        for name, text in sources():
            for node in ast.walk(ast.parse(text)):
                if isinstance(node, ast.FunctionDef):
                    with self.subTest(name=name, function=node.name):
                        self.assertLessEqual(node.end_lineno - node.lineno + 1, 40)

    def test_only_the_package_is_imported(self):
        for name, text in sources():
            for node in ast.walk(ast.parse(text)):
                if isinstance(node, ast.ImportFrom):
                    with self.subTest(name=name, line=node.lineno):
                        self.assertEqual(node.level, 0)
                        self.assertRegex(node.module, r"\Apiecebounds\.")
                        self.assertNotIn("*", [alias.name for alias in node.names])

    def test_no_barred_statement_or_expression(self):
        for name, text in sources():
            for node in ast.walk(ast.parse(text)):
                with self.subTest(name=name, line=getattr(node, "lineno", None)):
                    self.assertNotIsInstance(node, BARRED_NODES)
                    if isinstance(node, ast.Constant):
                        self.assertNotIsInstance(node.value, (float, complex))

    def test_only_allowed_builtins_are_used_and_none_is_renamed(self):
        for name, text in sources():
            tree = ast.parse(text)
            bound = bound_names(tree)
            with self.subTest(name=name):
                used = {node.id for node in ast.walk(tree) if isinstance(node, ast.Name)}
                self.assertLessEqual(used, bound | BUILTINS)
                self.assertFalse({one for one in bound & set(dir(builtins)) if not one.startswith("__")})
                self.assertFalse([one for one in bound if one.startswith("_") and not one.endswith("__")])

    def test_no_name_is_both_a_method_and_an_attribute(self):
        methods = set()
        attributes = set()
        for name, text in sources():
            for node in ast.walk(ast.parse(text)):
                if isinstance(node, ast.ClassDef):
                    methods.update(one.name for one in node.body if isinstance(one, ast.FunctionDef))
                elif isinstance(node, ast.Attribute) and isinstance(node.ctx, ast.Store):
                    attributes.add(node.attr)
        self.assertFalse(methods & attributes)


if __name__ == "__main__":
    unittest.main()
