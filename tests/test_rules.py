"""The package keeps to the rules of its language, as far as they can be seen simply."""

import ast
import re
import unittest
import warnings
from pathlib import Path

TOP = Path(__file__).resolve().parent.parent
PACKAGE = TOP / "nearlaid"
WORDS = (
    "len range enumerate zip min max sum abs sorted reversed int str bool bytes list tuple dict set frozenset "
    "isinstance ord repr any all divmod super property staticmethod classmethod Exception ValueError TypeError "
    "KeyError IndexError LookupError ZeroDivisionError ArithmeticError OverflowError RuntimeError "
    "NotImplementedError AttributeError StopIteration NotImplemented"
).split()
BARRED_WORDS = (
    "type typing typing_extensions enum Enum IntEnum StrEnum Flag IntFlag Generic Protocol ABC ABCMeta "
    "namedtuple NamedTuple TypedDict TYPE_CHECKING abstractmethod"
).split()
BARRED_NAMES = (
    "register mro elements open input version_info with_traceback add_note attrgetter breakpoint builtins "
    "compile copyright credits delattr dir eval exec exit gc getattr globals hasattr help id importlib license "
    "locals methodcaller os quit setattr type vars sys chr print"
).split()
METHODS = (
    "append clear copy count endswith extend find get index insert isalnum isalpha isdigit islower isspace isupper "
    "items join keys ljust lower lstrip partition pop remove replace reverse rfind rjust rpartition rsplit rstrip "
    "setdefault split splitlines startswith strip update upper values zfill bit_length removeprefix removesuffix "
    "isascii isdecimal add discard sort __init__"
).split()
STATEMENTS_BARRED = (ast.Global, ast.AsyncFunctionDef, ast.AsyncFor, ast.AsyncWith, ast.Await, ast.Import)


def files():
    return sorted(PACKAGE.rglob("*.py"))


def tree_of(path):
    return ast.parse(path.read_text(encoding="ascii"))


def functions(tree):
    return [node for node in ast.walk(tree) if isinstance(node, ast.FunctionDef)]


def bound_names(tree):
    """Every name that the file binds anywhere."""
    names = {node.name for node in ast.walk(tree) if isinstance(node, (ast.FunctionDef, ast.ClassDef))}
    names |= {node.arg for node in ast.walk(tree) if isinstance(node, ast.arg)}
    names |= {n.id for n in ast.walk(tree) if isinstance(n, ast.Name) and not isinstance(n.ctx, ast.Load)}
    for node in ast.walk(tree):
        if isinstance(node, ast.ImportFrom):
            names |= {alias.asname or alias.name for alias in node.names}
    return names


class Files(unittest.TestCase):
    def test_folders(self):
        for path in PACKAGE.rglob("*"):
            if "__pycache__" in path.parts:
                continue
            with self.subTest(str(path)):
                if path.is_dir():
                    self.assertTrue((path / "__init__.py").is_file())
                else:
                    self.assertRegex(path.name, r"^[a-z0-9_]+\.py$")
                    self.assertFalse(path.name.startswith("test"))
        self.assertLessEqual(len(files()), 100)

    def test_signs_and_sizes(self):
        for path in files():
            with self.subTest(str(path)):
                text = path.read_text(encoding="utf-8")
                self.assertRegex(text, r"\A[ -~\n]*\Z")
                lines = text.splitlines()
                self.assertLessEqual(len(lines), 400)
                self.assertLessEqual(max([len(line) for line in lines] + [0]), 120)
                for node in functions(tree_of(path)):
                    self.assertLessEqual(node.end_lineno - node.lineno + 1, 40, node.name)

    def test_barred_words(self):
        for path in files():
            words = set(re.findall(r"\w+", path.read_text(encoding="ascii")))
            self.assertEqual(words & set(BARRED_WORDS), set(), path)

    def test_no_warnings(self):
        for path in files():
            with warnings.catch_warnings():
                warnings.simplefilter("error")
                compile(path.read_text(encoding="ascii"), str(path), "exec")


class Trees(unittest.TestCase):
    def test_imports(self):
        for path in files():
            tree = tree_of(path)
            for node in ast.walk(tree):
                if isinstance(node, ast.ImportFrom):
                    self.assertIn(node, tree.body)
                    self.assertEqual(node.level, 0)
                    self.assertTrue(node.module == "__future__" or node.module.startswith("nearlaid."), path)
                    self.assertNotIn("*", [alias.name for alias in node.names])

    def test_module_level(self):
        for path in files():
            bound = []
            for node in tree_of(path).body:
                self.assertIsInstance(
                    node, (ast.Expr, ast.ImportFrom, ast.FunctionDef, ast.ClassDef, ast.Assign), path
                )
                if isinstance(node, ast.Expr):
                    self.assertIsInstance(node.value, ast.Constant)
                elif isinstance(node, ast.Assign):
                    bound += [target.id for target in node.targets]
                elif isinstance(node, ast.ImportFrom):
                    bound += [alias.asname or alias.name for alias in node.names]
                else:
                    bound.append(node.name)
            self.assertEqual(len(bound), len(set(bound)), path)

    def test_names(self):
        python_own = set(dir(__import__("builtins")))
        for path in files():
            tree = tree_of(path)
            bound = bound_names(tree)
            read = {node.id for node in ast.walk(tree) if isinstance(node, ast.Name)}
            with self.subTest(str(path)):
                self.assertEqual(bound & python_own, set())
                self.assertEqual((bound | read) & set(BARRED_NAMES), set())
                self.assertEqual(read - bound - set(WORDS), set())
                for name in bound:
                    self.assertTrue(not name.startswith("_") or re.fullmatch(r"__[a-z]+__", name), name)

    def test_no_local_name_hides_an_import_or_a_class(self):
        for path in files():
            tree = tree_of(path)
            taken = {node.name for node in tree.body if isinstance(node, ast.ClassDef)}
            for node in tree.body:
                if isinstance(node, ast.ImportFrom):
                    taken |= {alias.asname or alias.name for alias in node.names}
            for function in functions(tree):
                local = {node.arg for node in ast.walk(function) if isinstance(node, ast.arg)}
                local |= {n.id for n in ast.walk(function) if isinstance(n, ast.Name) and isinstance(n.ctx, ast.Store)}
                self.assertEqual(local & taken, set(), f"{path}: {function.name}")

    def test_methods_and_attributes(self):
        methods, attributes = set(), set()
        for path in files():
            for node in ast.walk(tree_of(path)):
                if isinstance(node, ast.ClassDef):
                    methods |= {part.name for part in node.body if isinstance(part, ast.FunctionDef)}
                if isinstance(node, ast.Attribute) and isinstance(node.ctx, ast.Store):
                    attributes.add(node.attr)
        self.assertEqual(methods & attributes, set())
        for path in files():
            for node in ast.walk(tree_of(path)):
                if isinstance(node, ast.Call) and isinstance(node.func, ast.Attribute):
                    self.assertIn(node.func.attr, methods | set(METHODS), path)

    def test_no_import_goes_round(self):
        # Each file may import from files that need nothing of it: such an order is sought.
        needs = {}
        for path in files():
            module = ".".join(path.relative_to(TOP).with_suffix("").parts)
            needs[module] = {node.module for node in tree_of(path).body if isinstance(node, ast.ImportFrom)}
        while needs:
            ready = [module for module in needs if not needs[module] & set(needs)]
            self.assertNotEqual(ready, [], needs)
            for module in ready:
                del needs[module]

    def test_statements_and_signs(self):
        for path in files():
            for node in ast.walk(tree_of(path)):
                where = f"{path}:{getattr(node, 'lineno', 0)}"
                self.assertNotIsInstance(node, STATEMENTS_BARRED, where)
                self.assertNotIsInstance(node, (ast.Div, ast.MatMult), where)
                if isinstance(node, ast.Constant):
                    self.assertNotIsInstance(node.value, (float, complex), where)
                    if isinstance(node.value, str):
                        self.assertNotIn("%", node.value, where)
                if isinstance(node, ast.BinOp) and isinstance(node.op, ast.Pow):
                    self.assertIsInstance(node.right, ast.Constant, where)
                    self.assertLessEqual(node.right.value, 64, where)
                if isinstance(node, ast.Compare):
                    for op, right in zip(node.ops, node.comparators):
                        if isinstance(op, (ast.Is, ast.IsNot)):
                            self.assertIsInstance(right, ast.Constant, where)
                if isinstance(node, ast.ExceptHandler):
                    self.assertIsNotNone(node.type, where)


if __name__ == "__main__":
    unittest.main()
