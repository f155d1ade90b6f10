"""The rules of the language that a look at the written code can hold: not all of them, but the common slips."""

import ast
import builtins
import pathlib
import re
import unittest

FOLDER = pathlib.Path(__file__).resolve().parent.parent / "touchboats"
FILES = sorted(path for path in FOLDER.rglob("*") if path.is_file() and "__pycache__" not in path.parts)

# L8
KNOWN = set(
    "len range enumerate zip min max sum abs sorted reversed int str bool bytes list tuple dict set frozenset "
    "isinstance ord repr any all divmod Exception ValueError TypeError KeyError IndexError LookupError "
    "ZeroDivisionError ArithmeticError OverflowError RuntimeError NotImplementedError AttributeError "
    "StopIteration".split()
)
# L17, in remarks and texts too
WORDS = (
    r"\b(type|typing|typing_extensions|enum|Enum|IntEnum|StrEnum|Flag|IntFlag|Generic|Protocol|ABC|ABCMeta|"
    r"namedtuple|NamedTuple|TypedDict|TYPE_CHECKING|abstractmethod)\b|dataclass|overload|contextmanager"
)
# L6, L7
UNUSED = (
    ast.GeneratorExp, ast.With, ast.Match, ast.Global, ast.Nonlocal, ast.Yield, ast.YieldFrom, ast.Await,
    ast.AsyncFunctionDef, ast.AsyncFor, ast.AsyncWith, ast.NamedExpr, ast.Div, ast.MatMult, ast.TryStar, ast.Import,
)

# L25
METHODS = set(
    "append clear copy count endswith extend find get index insert isalnum isalpha isdigit islower isspace isupper items "
    "join keys ljust lower lstrip partition pop remove replace reverse rfind rjust rpartition rsplit rstrip setdefault "
    "split splitlines startswith strip update upper values zfill bit_length add discard".split()
)


def trees():
    return [(path.name, ast.parse(path.read_text(encoding="ascii"))) for path in FILES]


def given_names(tree):
    for node in ast.walk(tree):
        if isinstance(node, (ast.FunctionDef, ast.ClassDef)):
            yield node.name
        elif isinstance(node, ast.arg):
            yield node.arg
        elif isinstance(node, ast.Name) and isinstance(node.ctx, ast.Store):
            yield node.id


class Language(unittest.TestCase):
    def test_files(self):
        names = [path.relative_to(FOLDER).as_posix() for path in FILES]
        self.assertIn("__init__.py", names)
        for name in names:
            self.assertRegex(name, r"\A([a-z][a-z0-9_]*|__init__)\.py\Z")

    def test_signs_and_sizes(self):
        for path in FILES:
            text = path.read_bytes().decode("ascii")
            self.assertIsNone(re.search(r"[^ -~\n]", text), path.name)
            lines = text.split("\n")
            self.assertLessEqual(len(lines), 401, path.name)
            self.assertLessEqual(max(len(line) for line in lines), 120, path.name)
            self.assertIsNone(re.search(WORDS, text), path.name)

    def test_functions(self):
        for name, tree in trees():
            for node in ast.walk(tree):
                if isinstance(node, ast.FunctionDef):
                    self.assertLessEqual(node.end_lineno - node.lineno + 1, 40, (name, node.name))
                    self.assertEqual(node.decorator_list, [], (name, node.name))
                    self.assertIsNone(node.args.vararg or node.args.kwarg, (name, node.name))

    def test_forms(self):
        for name, tree in trees():
            for node in ast.walk(tree):
                self.assertNotIsInstance(node, UNUSED, (name, getattr(node, "lineno", 0)))
                if isinstance(node, ast.Constant):
                    self.assertNotIsInstance(node.value, (float, complex), name)
                if isinstance(node, (ast.For, ast.While)):
                    self.assertEqual(node.orelse, [], (name, node.lineno))

    def test_imports(self):
        drawn = {}
        for name, tree in trees():
            rows = [node for node in ast.walk(tree) if isinstance(node, ast.ImportFrom)]
            for row in rows:
                self.assertIn(row, tree.body)
                self.assertEqual(row.level, 0)
                self.assertRegex(row.module, r"\Atouchboats\.[a-z]+\Z")
                source = ast.parse((FOLDER / (row.module.split(".")[1] + ".py")).read_text())
                tops = [getattr(node, "name", None) for node in source.body]
                tops += [target.id for node in source.body if isinstance(node, ast.Assign) for target in node.targets]
                for alias in row.names:
                    self.assertIn(alias.name, tops, (name, row.module))
            drawn[name] = {row.module.split(".")[1] + ".py" for row in rows}
        while drawn:
            free = [name for name in drawn if not drawn[name] & drawn.keys()]
            self.assertTrue(free, drawn)
            for name in free:
                del drawn[name]

    def test_names(self):
        own = set(dir(builtins))
        for name, tree in trees():
            imports = {alias.asname or alias.name for node in ast.walk(tree) if isinstance(node, ast.ImportFrom)
                       for alias in node.names}
            for given in given_names(tree):
                self.assertTrue(given == "__init__" or not given.startswith("_"), (name, given))
                self.assertNotIn(given, own | imports, name)
            for node in ast.walk(tree):
                if isinstance(node, ast.Name) and node.id in own:
                    self.assertIn(node.id, KNOWN, (name, node.lineno))

    def test_methods_and_values(self):
        classes = [node for name, tree in trees() for node in ast.walk(tree) if isinstance(node, ast.ClassDef)]
        methods = {node.name for one in classes for node in one.body if isinstance(node, ast.FunctionDef)}
        given, asked = set(), set()
        for name, tree in trees():
            for node in ast.walk(tree):
                if isinstance(node, ast.Attribute):
                    (given if isinstance(node.ctx, ast.Store) else asked).add(node.attr)
        # L18: no name is both; and what is asked is some class's own, or of Python's own values.
        self.assertEqual(methods & given, set())
        self.assertEqual(asked - methods - given - METHODS, set())
        # L26: nor is it called like a method of a value of Python's own.
        for kind in (str, int, list, dict, set, bytes, tuple):
            self.assertEqual((methods - {"__init__"} | given) & set(dir(kind)), set())


if __name__ == "__main__":
    unittest.main()
