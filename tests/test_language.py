"""Those rules of LANGUAGE.md that can be seen file by file; the rest is for the reader."""

import ast
import builtins
import os
import re
import unittest

FOLDER = os.path.join(os.path.dirname(os.path.abspath(__file__)), os.pardir, "beatferry")

BARRED_WORDS = re.compile(
    r"\b(type|typing|typing_extensions|enum|Enum|IntEnum|StrEnum|Flag|IntFlag|Generic|Protocol|ABC|ABCMeta"
    r"|namedtuple|NamedTuple|TypedDict|TYPE_CHECKING|abstractmethod)\b|dataclass|overload|contextmanager"
)
BARRED_NAMES = {
    "register", "mro", "elements", "open", "input", "version_info", "with_traceback", "add_note",
    "breakpoint", "compile", "delattr", "dir", "eval", "exec", "exit", "getattr", "globals", "hasattr",
    "help", "id", "locals", "os", "quit", "setattr", "sys", "vars", "chr", "float", "complex", "frozenset",
    "hash", "map", "filter", "round", "pow", "print", "object", "bytearray", "memoryview", "callable",
}
ALLOWED_BUILTINS = set(
    "len range enumerate zip min max sum abs sorted reversed int str bool bytes list tuple dict set isinstance ord"
    " repr any all divmod iter next Exception ValueError TypeError KeyError IndexError LookupError ZeroDivisionError"
    " ArithmeticError OverflowError RuntimeError NotImplementedError AttributeError StopIteration NotImplemented"
    " property staticmethod classmethod super".split())
ALLOWED_METHODS = set(
    "append clear copy count endswith extend find get index insert isalnum isalpha isdigit islower isspace isupper"
    " items join keys ljust lower lstrip partition pop remove replace reverse rfind rjust rpartition rsplit rstrip"
    " setdefault split splitlines startswith strip update upper values zfill bit_length add discard sort"
    " isascii isdecimal".split())


def names():
    return sorted(name for name in os.listdir(FOLDER) if name != "__pycache__")


def files():
    for name in names():
        with open(os.path.join(FOLDER, name), encoding="utf-8") as file:
            yield name, file.read()


def parsed():
    for name, text in files():
        yield name, ast.parse(text)


def bound_at_top(tree):
    """The names that a file defines itself."""
    for node in tree.body:
        if isinstance(node, (ast.FunctionDef, ast.ClassDef)):
            yield node.name
        elif isinstance(node, ast.Assign):
            yield from (target.id for target in node.targets)


def imported(tree):
    """(module, name) of each import of a file."""
    for node in tree.body:
        if isinstance(node, ast.ImportFrom):
            yield from ((node.module, alias.asname or alias.name) for alias in node.names)


def local_names(tree):
    """Parameters, and all names that functions assign."""
    for node in ast.walk(tree):
        if isinstance(node, ast.arg):
            yield node.arg
        elif isinstance(node, ast.Name) and isinstance(node.ctx, ast.Store):
            yield node.id


class Files(unittest.TestCase):
    def test_plain_files_alone(self):
        self.assertIn("__init__.py", names())
        for name in names():
            self.assertRegex(name, r"\A(__init__|__main__|[a-z][a-z0-9_]*)\.py\Z")

    def test_sizes_and_characters(self):
        for name, text in files():
            self.assertLessEqual(len(text.splitlines()), 400, name)
            for line in text.split("\n"):
                self.assertLessEqual(len(line), 120, (name, line))
            self.assertRegex(text, r"\A[ -~\n]*\Z", name)

    def test_barred_words(self):
        for name, text in files():
            self.assertIsNone(BARRED_WORDS.search(text), name)


class Code(unittest.TestCase):
    def test_imports(self):
        for name, tree in parsed():
            for node in ast.walk(tree):
                self.assertNotIsInstance(node, ast.Import, name)
                if isinstance(node, ast.ImportFrom):
                    self.assertIn(node, tree.body, name)
                    self.assertEqual(node.level, 0, name)
                    self.assertRegex(node.module, r"\Abeatferry\.", name)

    def test_imports_name_the_file_that_defines(self):
        defined = {f"beatferry.{name[:-3]}": set(bound_at_top(tree)) for name, tree in parsed()}
        for name, tree in parsed():
            for module, word in imported(tree):
                self.assertIn(word, defined[module], name)

    def test_no_two_files_import_from_each_other(self):
        ahead = {f"beatferry.{name[:-3]}": {module for module, _ in imported(tree)} for name, tree in parsed()}
        while ahead:
            free = [module for module in ahead if not ahead[module] & set(ahead)]
            self.assertTrue(free, ahead)
            ahead = {module: ahead[module] for module in ahead if module not in free}

    def test_each_name_is_bound_once(self):
        for name, tree in parsed():
            top = list(bound_at_top(tree)) + [word for _, word in imported(tree)]
            self.assertEqual(len(top), len(set(top)), name)

    def test_no_local_name_hides_an_import_a_class_or_a_builtin(self):
        for name, tree in parsed():
            barred = {word for _, word in imported(tree)} | set(dir(builtins))
            barred |= {node.name for node in tree.body if isinstance(node, ast.ClassDef)}
            self.assertEqual(sorted(barred & set(local_names(tree))), [], name)

    def test_builtins(self):
        for name, tree in parsed():
            used = {node.id for node in ast.walk(tree) if isinstance(node, ast.Name)}
            self.assertEqual(sorted(used & set(dir(builtins)) - ALLOWED_BUILTINS), [], name)

    def test_methods(self):
        own = set()
        for _, tree in parsed():
            for node in ast.walk(tree):
                if isinstance(node, ast.ClassDef):
                    own |= {method.name for method in node.body if isinstance(method, ast.FunctionDef)}
        for name, tree in parsed():
            for node in ast.walk(tree):
                if isinstance(node, ast.Call) and isinstance(node.func, ast.Attribute):
                    self.assertIn(node.func.attr, ALLOWED_METHODS | own, name)

    def test_is(self):
        for name, tree in parsed():
            for node in ast.walk(tree):
                if isinstance(node, ast.Compare):
                    for sign, right in zip(node.ops, node.comparators):
                        if isinstance(sign, (ast.Is, ast.IsNot)):
                            self.assertIsInstance(right, ast.Constant, name)
                            self.assertIn(right.value, (None, True, False), name)

    def test_lists_in_the_stead_of_generator_expressions(self):
        # any, all, sum and the like take lists where a class has an __eq__: so they do from the first.
        for name, tree in parsed():
            for node in ast.walk(tree):
                self.assertNotIsInstance(node, ast.GeneratorExp, name)

    def test_functions_are_short(self):
        for name, tree in parsed():
            for node in ast.walk(tree):
                if isinstance(node, ast.FunctionDef):
                    self.assertLessEqual(node.end_lineno - node.lineno + 1, 40, (name, node.name))

    def test_names(self):
        for name, tree in parsed():
            for node in ast.walk(tree):
                for field in ("id", "name", "arg", "attr"):
                    word = getattr(node, field, None)
                    if isinstance(word, str):
                        self.assertNotIn(word, BARRED_NAMES, name)
                        self.assertRegex(word, r"\A([A-Za-z][A-Za-z0-9_]*|__[a-z]+__)\Z", name)

    def test_no_number_with_a_point(self):
        for name, tree in parsed():
            for node in ast.walk(tree):
                self.assertNotIsInstance(node, ast.Div, name)
                if isinstance(node, ast.Constant):
                    self.assertNotIsInstance(node.value, (float, complex), name)

    def test_no_barred_statement(self):
        barred = (ast.Global, ast.AsyncFunctionDef, ast.AsyncFor, ast.AsyncWith, ast.Await)
        for name, tree in parsed():
            for node in ast.walk(tree):
                self.assertNotIsInstance(node, barred, name)

    def test_powers_have_a_written_exponent(self):
        for name, tree in parsed():
            for node in ast.walk(tree):
                if isinstance(node, (ast.BinOp, ast.AugAssign)) and isinstance(node.op, ast.Pow):
                    exponent = node.right if isinstance(node, ast.BinOp) else node.value
                    self.assertIsInstance(exponent, ast.Constant, name)
                    self.assertIn(exponent.value, range(65), name)


def own_classes():
    for name, tree in parsed():
        for node in tree.body:
            if isinstance(node, ast.ClassDef):
                yield name, node


def methods_of(node):
    return [method for method in node.body if isinstance(method, ast.FunctionDef)]


class Classes(unittest.TestCase):
    def test_no_name_is_a_method_here_and_an_attribute_there(self):
        methods = {method.name for _, node in own_classes() for method in methods_of(node)}
        stored = set()
        for _, tree in parsed():
            for node in ast.walk(tree):
                if isinstance(node, ast.Attribute) and isinstance(node.ctx, ast.Store):
                    stored.add(node.attr)
        self.assertEqual(sorted(methods & stored), [])

    def test_no_method_twice(self):
        for name, node in own_classes():
            some = [method.name for method in methods_of(node)]
            self.assertEqual(len(some), len(set(some)), (name, node.name))

    def test_double_underscore_methods(self):
        for name, node in own_classes():
            for method in methods_of(node):
                if not method.name.startswith("__"):
                    continue
                self.assertIn(method.name, ("__init__", "__eq__", "__len__"), (name, node.name))
                returns = [one for one in ast.walk(method) if isinstance(one, ast.Return)]
                if method.name == "__init__":
                    self.assertEqual(returns, [], (name, node.name))
                    continue
                # One plain return, and so nothing is assigned or changed.
                self.assertEqual(returns, method.body[-1:], (name, node.name))
                self.assertEqual(len(method.body), 1, (name, node.name))
                if method.name == "__len__":
                    self.assertEqual(returns[0].value.func.id, "len", (name, node.name))

    def test_iterated_at_once(self):
        # range, zip and the like stand behind "in" or straight in what goes over them, never stored or passed on.
        lazy = {"range", "zip", "enumerate", "reversed"}
        takers = {"list", "tuple", "dict", "sorted", "sum", "any", "all", "enumerate", "zip", "min", "max"}
        for name, tree in parsed():
            allowed = set()
            for node in ast.walk(tree):
                if isinstance(node, (ast.For, ast.comprehension)):
                    allowed.add(node.iter)
                elif isinstance(node, ast.Compare):
                    allowed.update(node.comparators)
                elif isinstance(node, ast.Call) and isinstance(node.func, ast.Name):
                    if node.func.id in takers:
                        allowed.update(node.args)
                    if node.func.id == "reversed":
                        allowed.update(one for one in node.args if ast.unparse(one).startswith("range("))
            for node in ast.walk(tree):
                if isinstance(node, ast.Call) and isinstance(node.func, ast.Name) and node.func.id in lazy:
                    self.assertIn(node, allowed, (name, ast.unparse(node)))


if __name__ == "__main__":
    unittest.main()
