"""Those rules of LANGUAGE.md that can be seen file by file; the rest is for the reader."""

import ast
import os
import re
import unittest

FOLDER = os.path.join(os.path.dirname(os.path.abspath(__file__)), os.pardir, "beatferry")

BARRED_WORDS = re.compile(
    r"\b(type|typing|typing_extensions|enum|Enum|IntEnum|StrEnum|Flag|IntFlag|Generic|Protocol|ABC|ABCMeta"
    r"|namedtuple|NamedTuple|TypedDict|TYPE_CHECKING|abstractmethod)\b|dataclass|overload|contextmanager"
)
BARRED_NAMES = {
    "register", "mro", "elements", "open", "input", "version_info", "with_traceback", "add_note",
    "breakpoint", "compile", "delattr", "dir", "eval", "exec", "exit", "getattr", "globals", "hasattr",
    "help", "id", "locals", "os", "quit", "setattr", "sys", "vars", "chr", "float", "complex", "frozenset",
    "hash", "map", "filter", "round", "pow", "print", "object", "bytearray", "memoryview", "callable",
}


def names():
    return sorted(name for name in os.listdir(FOLDER) if name != "__pycache__")


def files():
    for name in names():
        with open(os.path.join(FOLDER, name), encoding="utf-8") as file:
            yield name, file.read()


def parsed():
    for name, text in files():
        yield name, ast.parse(text)


class Files(unittest.TestCase):
    def test_plain_files_alone(self):
        self.assertIn("__init__.py", names())
        for name in names():
            self.assertRegex(name, r"\A(__init__|__main__|[a-z][a-z0-9_]*)\.py\Z")

    def test_sizes_and_characters(self):
        for name, text in files():
            self.assertLessEqual(len(text.splitlines()), 400, name)
            for line in text.split("\n"):
                self.assertLessEqual(len(line), 120, (name, line))
            self.assertRegex(text, r"\A[ -~\n]*\Z", name)

    def test_barred_words(self):
        for name, text in files():
            self.assertIsNone(BARRED_WORDS.search(text), name)


class Code(unittest.TestCase):
    def test_imports(self):
        for name, tree in parsed():
            for node in ast.walk(tree):
                self.assertNotIsInstance(node, ast.Import, name)
                if isinstance(node, ast.ImportFrom):
                    self.assertIn(node, tree.body, name)
                    self.assertEqual(node.level, 0, name)
                    self.assertRegex(node.module, r"\Abeatferry\.", name)

    def test_functions_are_short(self):
        for name, tree in parsed():
            for node in ast.walk(tree):
                if isinstance(node, ast.FunctionDef):
                    self.assertLessEqual(node.end_lineno - node.lineno + 1, 40, (name, node.name))

    def test_names(self):
        for name, tree in parsed():
            for node in ast.walk(tree):
                for field in ("id", "name", "arg", "attr"):
                    word = getattr(node, field, None)
                    if isinstance(word, str):
                        self.assertNotIn(word, BARRED_NAMES, name)
                        self.assertRegex(word, r"\A([A-Za-z][A-Za-z0-9_]*|__[a-z]+__)\Z", name)

    def test_no_number_with_a_point(self):
        for name, tree in parsed():
            for node in ast.walk(tree):
                self.assertNotIsInstance(node, ast.Div, name)
                if isinstance(node, ast.Constant):
                    self.assertNotIsInstance(node.value, (float, complex), name)

    def test_no_barred_statement(self):
        barred = (ast.Global, ast.AsyncFunctionDef, ast.AsyncFor, ast.AsyncWith, ast.Await)
        for name, tree in parsed():
            for node in ast.walk(tree):
                self.assertNotIsInstance(node, barred, name)

    def test_powers_have_a_written_exponent(self):
        for name, tree in parsed():
            for node in ast.walk(tree):
                if isinstance(node, (ast.BinOp, ast.AugAssign)) and isinstance(node.op, ast.Pow):
                    exponent = node.right if isinstance(node, ast.BinOp) else node.value
                    self.assertIsInstance(exponent, ast.Constant, name)
                    self.assertIn(exponent.value, range(65), name)


if __name__ == "__main__":
    unittest.main()
