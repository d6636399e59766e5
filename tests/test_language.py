"""The package keeps to the plain subset of Python: the rules that a look at the text can show."""

import ast
import builtins
import pathlib
import re
import unittest

ROOT = pathlib.Path(__file__).resolve().parent.parent
PACKAGE = ROOT / "undercells"

BUILTINS = set(
    "len range enumerate zip min max sum abs sorted reversed int str bool bytes list tuple dict set frozenset "
    "isinstance ord repr any all divmod Exception ValueError TypeError KeyError IndexError LookupError "
    "ZeroDivisionError ArithmeticError OverflowError RuntimeError NotImplementedError AttributeError "
    "StopIteration".split())

METHODS = set(
    "append clear copy count endswith extend find get index insert isalnum isalpha isdigit islower isspace isupper "
    "items join keys ljust lower lstrip partition pop remove replace reverse rfind rjust rpartition rsplit rstrip "
    "setdefault split splitlines startswith strip update upper values zfill bit_length add discard sort "
    "removeprefix removesuffix".split())

BARRED_NODES = (
    ast.With, ast.Match, ast.Global, ast.Nonlocal, ast.Yield, ast.YieldFrom, ast.AsyncFunctionDef, ast.AsyncFor,
    ast.AsyncWith, ast.Await, ast.GeneratorExp, ast.NamedExpr, ast.Div, ast.MatMult, ast.Import,
)

BARRED_NAMES = set(
    "register mro elements open input version_info with_traceback add_note attrgetter breakpoint builtins compile "
    "copyright credits delattr dir eval exec exit gc getattr globals hasattr help id importlib license locals "
    "methodcaller os quit setattr super type vars sys chr print".split())

BARRED_WORDS = re.compile(
    r"\b(type|typing|typing_extensions|enum|Enum|IntEnum|StrEnum|Flag|IntFlag|Generic|Protocol|ABC|ABCMeta|namedtuple"
    r"|NamedTuple|TypedDict|TYPE_CHECKING|abstractmethod)\b|dataclass|overload|contextmanager")


def files():
    return sorted(path for path in PACKAGE.rglob("*") if "__pycache__" not in path.parts)


def trees():
    return [(path.name, ast.parse(path.read_text())) for path in files()]


def nodes(kind):
    return [(name, node) for name, tree in trees() for node in ast.walk(tree) if isinstance(node, kind)]


def bound_names(tree):
    """All names that a file binds, wherever."""
    found = []
    for node in ast.walk(tree):
        if isinstance(node, ast.Name) and isinstance(node.ctx, ast.Store):
            found.append(node.id)
        elif isinstance(node, (ast.FunctionDef, ast.ClassDef)):
            found.append(node.name)
        elif isinstance(node, ast.arg):
            found.append(node.arg)
        elif isinstance(node, ast.ExceptHandler) and node.name:
            found.append(node.name)
    return found


FLEETING = "range enumerate zip reversed items keys values".split()


def called(node):
    """The name of what a call calls, of a method its last name."""
    return getattr(node.func, "id", getattr(node.func, "attr", None))


class Language(unittest.TestCase):

    def test_files(self):
        self.assertIn(PACKAGE / "__init__.py", files())
        for path in files():
            self.assertRegex(path.name, r"^([a-z][a-z0-9_]*|__init__)\.py$")
            self.assertNotIn(path.stem, dir(builtins))

    def test_characters_and_sizes(self):
        for path in files():
            text = path.read_text()
            self.assertRegex(text, r"\A[ -~\n]*\Z", path.name)
            self.assertIsNone(BARRED_WORDS.search(text), path.name)
            self.assertLessEqual(len(text.splitlines()), 400, path.name)
            self.assertLessEqual(max(len(line) for line in text.splitlines()), 120, path.name)
        for name, node in nodes(ast.FunctionDef):
            self.assertLessEqual(node.end_lineno - node.lineno + 1, 40, (name, node.name))

    def test_statements_and_expressions(self):
        for name, node in nodes(BARRED_NODES):
            self.fail(f"{name}: {ast.dump(node)}")
        for name, node in nodes((ast.For, ast.While)):
            self.assertEqual(node.orelse, [], name)
        for name, node in nodes(ast.Constant):
            self.assertNotIsInstance(node.value, (float, complex), name)
            if isinstance(node.value, str):
                self.assertNotIn("%", node.value, name)
        for name, node in nodes(ast.FunctionDef):
            self.assertEqual((node.decorator_list, node.args.vararg, node.args.kwarg), ([], None, None), name)
        for name, node in nodes(ast.Compare):
            for sign, side in zip(node.ops, node.comparators):
                if isinstance(sign, (ast.Is, ast.IsNot)):
                    self.assertIn(getattr(side, "value", "none"), [None, True, False], name)
        for name, node in nodes(ast.BinOp):
            if isinstance(node.op, ast.Pow):
                self.assertIsInstance(node.right, ast.Constant, name)

    def test_imports(self):
        for name, node in nodes(ast.ImportFrom):
            self.assertEqual(node.level, 0, name)
            self.assertRegex(node.module, r"^undercells\.[a-z_]+$", name)
            source = ast.parse((PACKAGE / (node.module.split(".")[1] + ".py")).read_text())
            defined = [part.name for part in source.body if isinstance(part, (ast.FunctionDef, ast.ClassDef))]
            defined += [part.targets[0].id for part in source.body if isinstance(part, ast.Assign)]
            for alias in node.names:
                self.assertIn(alias.name, defined, name)

    def test_no_two_files_import_each_other(self):
        wanted = {
            name[:-3]: {
                node.module.split(".")[1] for node in tree.body if isinstance(node, ast.ImportFrom)
            } for name, tree in trees()
        }
        while wanted:
            free = [name for name in wanted if not wanted[name] & set(wanted)]
            self.assertTrue(free, wanted)
            for name in free:
                del wanted[name]

    def test_names(self):
        for name, tree in trees():
            imported = [
                alias.name for node in ast.walk(tree) if isinstance(node, ast.ImportFrom) for alias in node.names
            ]
            for bound in bound_names(tree):
                self.assertRegex(bound, r"^([A-Za-z][A-Za-z0-9_]*|__init__)$", name)
                self.assertNotIn(bound, dir(builtins), name)
                self.assertNotIn(bound, BARRED_NAMES, name)
                self.assertNotIn(bound, imported, name)
            top = imported + [
                part.name for part in tree.body if isinstance(part, (ast.FunctionDef, ast.ClassDef))
            ] + [part.targets[0].id for part in tree.body if isinstance(part, ast.Assign)]
            self.assertEqual(len(top), len(set(top)), name)

    def test_builtins_and_methods(self):
        for name, node in nodes(ast.Name):
            if node.id in dir(builtins):
                self.assertIn(node.id, BUILTINS, name)
        own = {node.attr for name, node in nodes(ast.Attribute) if isinstance(node.ctx, ast.Store)}
        own |= {part.name for name, node in nodes(ast.ClassDef) for part in node.body if hasattr(part, "name")}
        for name, node in nodes(ast.Attribute):
            self.assertIn(node.attr, METHODS | own, name)

    def test_iterated_at_once(self):
        """What only lasts for one look is not stored, told or handed on, but to what looks at once."""
        takers = "list tuple dict sorted sum any all enumerate zip bytes min max len reversed set join".split()
        for name, tree in trees():
            at_once = []
            for node in ast.walk(tree):
                if isinstance(node, (ast.For, ast.comprehension)):
                    at_once.append(node.iter)
                elif isinstance(node, ast.Call) and called(node) in takers:
                    at_once.extend(node.args[:1] if called(node) != "zip" else node.args)
                elif isinstance(node, ast.Compare) and isinstance(node.ops[0], (ast.In, ast.NotIn)):
                    at_once.extend(node.comparators)
            for node in ast.walk(tree):
                if isinstance(node, ast.Call) and called(node) in FLEETING:
                    self.assertIn(node, at_once, (name, node.lineno))

    def test_lists_at_module_level_are_only_read(self):
        lists = set()
        for name, tree in trees():
            lists |= {
                part.targets[0].id for part in tree.body
                if isinstance(part, ast.Assign) and isinstance(part.value, (ast.List, ast.Dict))
            }
        for name, tree in trees():
            read = []
            for node in ast.walk(tree):
                if isinstance(node, (ast.For, ast.comprehension)):
                    read.append(node.iter)
                elif isinstance(node, ast.Call) and called(node) in ["list", "dict", "len", "sorted", "tuple"]:
                    read.extend(node.args)
                elif isinstance(node, (ast.Subscript, ast.Attribute)) and isinstance(node.ctx, ast.Load):
                    read.append(node.value)
                elif isinstance(node, ast.Compare):
                    read.extend([node.left] + node.comparators)
            for node in ast.walk(tree):
                if isinstance(node, ast.Name) and node.id in lists and isinstance(node.ctx, ast.Load):
                    self.assertIn(node, read, (name, node.lineno))

    def test_module_level(self):
        allowed = (ast.Expr, ast.ImportFrom, ast.FunctionDef, ast.ClassDef, ast.Assign)
        for name, tree in trees():
            for part in tree.body:
                self.assertIsInstance(part, allowed, name)
                if isinstance(part, ast.Expr):
                    self.assertIsInstance(part.value, ast.Constant, name)


if __name__ == "__main__":
    unittest.main()
