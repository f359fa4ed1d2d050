"""The package keeps to its part of Python: the rules that can be seen at a file's form."""

import ast
import builtins
import pathlib
import re
import unittest

PACKAGE = pathlib.Path(__file__).resolve().parent.parent / "classtab"
FILES = sorted(path for path in PACKAGE.rglob("*") if "__pycache__" not in path.parts and path.is_file())
NO_NODES = (
    ast.With, ast.AsyncWith, ast.Match, ast.Delete, ast.Global, ast.Nonlocal, ast.Assert, ast.Yield, ast.YieldFrom,
    ast.Await, ast.AsyncFor, ast.AsyncFunctionDef, ast.Import, ast.SetComp, ast.DictComp, ast.GeneratorExp,
    ast.NamedExpr, ast.Starred, ast.Div, ast.MatMult,
)
OWN_NAMES = set(
    "len range enumerate zip min max sum abs sorted reversed int str bool list tuple dict set frozenset isinstance ord "
    "repr any all divmod Exception ValueError TypeError KeyError IndexError LookupError ZeroDivisionError "
    "ArithmeticError OverflowError RuntimeError NotImplementedError AttributeError StopIteration".split()
)
NO_WORDS = re.compile(
    r"\b(type|typing|typing_extensions|enum|Enum|IntEnum|StrEnum|Flag|IntFlag|Generic|Protocol|ABC|ABCMeta|namedtuple|"
    r"NamedTuple|TypedDict|TYPE_CHECKING|abstractmethod)\b|dataclass|overload|contextmanager"
)
METHODS = ("__init__", "__eq__", "__repr__", "__str__", "__len__")
VALUE_METHODS = set(
    "append clear copy count endswith extend find get index insert isalnum isalpha isdigit islower isspace isupper "
    "items join keys ljust lower lstrip partition pop remove replace reverse rfind rjust rpartition rsplit rstrip "
    "setdefault split splitlines startswith strip update upper values zfill bit_length".split()
)
KEYWORDS = {
    "sorted": ("key", "reverse"), "min": ("key", "default"), "max": ("key", "default"), "sum": ("start",),
    "enumerate": ("start",), "zip": ("strict",),
}
NOWHERE = set("register mro elements open input version_info with_traceback add_note format format_map sort".split())


def bound_names(tree):
    """Every name that is given a value somewhere, with its node."""
    for node in ast.walk(tree):
        if isinstance(node, ast.Name) and isinstance(node.ctx, ast.Store):
            yield node.id
        elif isinstance(node, ast.arg):
            yield node.arg
        elif isinstance(node, (ast.FunctionDef, ast.ClassDef)):
            yield node.name
        elif isinstance(node, ast.Attribute) and isinstance(node.ctx, ast.Store):
            yield node.attr


def called(node):
    """The name of what a call calls."""
    return node.func.id if isinstance(node.func, ast.Name) else getattr(node.func, "attr", None)


class Language(unittest.TestCase):
    def each_tree(self):
        for path in FILES:
            yield path, ast.parse(path.read_text(encoding="utf-8"))

    def test_files(self):
        self.assertIn(PACKAGE / "__init__.py", FILES)
        for path in FILES:
            self.assertRegex(path.name, r"^[a-z0-9_]+\.py$")
            text = path.read_text(encoding="utf-8")
            self.assertRegex(text, r"\A[ -~\n]*\Z", path)
            self.assertIsNone(NO_WORDS.search(text), path)
            lines = text.split("\n")
            self.assertLessEqual(len(lines), 400, path)
            self.assertLessEqual(max(len(line) for line in lines), 120, path)

    def test_nodes(self):
        for path, tree in self.each_tree():
            for node in ast.walk(tree):
                where = (path.name, getattr(node, "lineno", 0))
                self.assertNotIsInstance(node, NO_NODES, where)
                if isinstance(node, ast.Constant):
                    self.assertNotIsInstance(node.value, (float, complex, bytes), where)
                    self.assertNotIn("%", node.value if isinstance(node.value, str) else "", where)
                if isinstance(node, ast.ListComp):
                    self.assertEqual(len(node.generators), 1, where)
                    self.assertLessEqual(len(node.generators[0].ifs), 1, where)
                if isinstance(node, ast.Assign):
                    self.assertEqual(len(node.targets), 1, where)
                if isinstance(node, ast.Try):
                    self.assertEqual(node.finalbody, [], where)
                if isinstance(node, (ast.For, ast.While)):
                    self.assertEqual(node.orelse, [], where)

    def test_functions_and_classes(self):
        for path, tree in self.each_tree():
            for node in ast.walk(tree):
                if isinstance(node, (ast.FunctionDef, ast.ClassDef)):
                    where = (path.name, node.name)
                    self.assertEqual(node.decorator_list, [], where)
                if isinstance(node, ast.FunctionDef):
                    self.assertLessEqual(node.end_lineno - node.lineno + 1, 40, where)
                    found = (node.args.vararg, node.args.kwarg, node.args.kwonlyargs, node.args.posonlyargs)
                    self.assertEqual(found, (None, None, [], []), where)
                if isinstance(node, ast.ClassDef):
                    self.assertLessEqual(len(node.bases), 1, where)
                    self.assertEqual(node.keywords, [], where)

    def test_names(self):
        for path, tree in self.each_tree():
            for name in bound_names(tree):
                self.assertTrue(name in METHODS or re.match(r"^[A-Za-z][A-Za-z0-9_]*$", name), (path.name, name))
            known = set(bound_names(tree)) | OWN_NAMES
            for node in ast.walk(tree):
                if isinstance(node, ast.ImportFrom):
                    known.update(alias.asname or alias.name for alias in node.names)
            for node in ast.walk(tree):
                if isinstance(node, ast.Name) and path.name != "__main__.py":
                    self.assertIn(node.id, known, (path.name, node.lineno))

    def test_top_of_a_module(self):
        plain = (ast.Constant, ast.List, ast.Tuple, ast.Dict, ast.Name, ast.Load, ast.UnaryOp, ast.USub)
        for path, tree in self.each_tree():
            self.assertIsNotNone(ast.get_docstring(tree), path)
            bound = []
            for node in tree.body[1:]:
                where = (path.name, node.lineno)
                self.assertIsInstance(node, (ast.ImportFrom, ast.FunctionDef, ast.ClassDef, ast.Assign), where)
                if isinstance(node, ast.Assign):
                    self.assertTrue(all(isinstance(part, plain) for part in ast.walk(node.value)), where)
                    bound.append(node.targets[0].id)
                elif isinstance(node, ast.ImportFrom):
                    bound.extend(alias.asname or alias.name for alias in node.names)
                else:
                    bound.append(node.name)
            self.assertEqual(len(bound), len(set(bound)), path)

    def test_methods(self):
        own = set()
        fields = set()
        for path, tree in self.each_tree():
            for node in ast.walk(tree):
                if isinstance(node, ast.ClassDef):
                    own.update(part.name for part in node.body if isinstance(part, ast.FunctionDef))
                if isinstance(node, ast.Attribute) and isinstance(node.ctx, ast.Store):
                    fields.add(node.attr)
        self.assertEqual(own & fields, set())
        for path, tree in self.each_tree():
            called_ones = [node.func for node in ast.walk(tree) if isinstance(node, ast.Call)]
            for node in ast.walk(tree):
                if isinstance(node, ast.Attribute):
                    where = (path.name, node.lineno, node.attr)
                    self.assertNotIn(node.attr, NOWHERE, where)
                    self.assertIn(node.attr, (own | VALUE_METHODS) if node in called_ones else fields, where)

    def test_calls(self):
        for path, tree in self.each_tree():
            for node in ast.walk(tree):
                where = (path.name, getattr(node, "lineno", 0))
                if isinstance(node, ast.Call):
                    for keyword in node.keywords:
                        self.assertIn(keyword.arg, KEYWORDS.get(called(node), ()), where)
                if isinstance(node, ast.Expr) and not isinstance(node.value, ast.Constant):
                    self.assertIsInstance(node.value, ast.Call, where)
                if isinstance(node, ast.Compare):
                    for op, right in zip(node.ops, node.comparators):
                        if isinstance(op, (ast.Is, ast.IsNot)):
                            self.assertIsInstance(right, ast.Constant, where)
                if isinstance(node, ast.BinOp) and isinstance(node.op, ast.Pow):
                    self.assertIsInstance(node.right, ast.Constant, where)
                if isinstance(node, ast.ExceptHandler):
                    self.assertIsInstance(node.type, ast.Name, where)
                    self.assertNotIn(node.type.id, ("Exception", "TypeError"), where)
                if isinstance(node, (ast.AnnAssign, ast.TryStar)):
                    self.fail(where)

    def test_loops_leave_alone_what_they_walk(self):
        copies = ("list", "sorted", "tuple", "range")
        changes = ("append", "clear", "extend", "insert", "pop", "remove", "reverse", "setdefault", "update")
        for path, tree in self.each_tree():
            for loop in ast.walk(tree):
                if not isinstance(loop, ast.For) or (isinstance(loop.iter, ast.Call) and called(loop.iter) in copies):
                    continue
                walked = [ast.unparse(node) for node in ast.walk(loop.iter) if hasattr(node, "ctx")]
                for node in ast.walk(ast.Module(loop.body, [])):
                    where = (path.name, getattr(node, "lineno", 0))
                    if isinstance(node, ast.Subscript) and isinstance(node.ctx, ast.Store):
                        self.assertNotIn(ast.unparse(node.value), walked, where)
                    if isinstance(node, ast.Call) and called(node) in changes:
                        self.assertNotIn(ast.unparse(node.func.value), walked, where)

    def test_walked_at_once(self):
        walkers = ("list", "tuple", "dict", "sorted", "sum", "any", "all", "enumerate", "zip", "min", "max")
        for path, tree in self.each_tree():
            fit = []
            for node in ast.walk(tree):
                if isinstance(node, (ast.For, ast.comprehension)):
                    fit.append(node.iter)
                if isinstance(node, ast.Call) and node.args:
                    if isinstance(node.func, ast.Name) and node.func.id in walkers:
                        fit.append(node.args[0])
                    if isinstance(node.func, ast.Attribute) and node.func.attr == "join":
                        fit.append(node.args[0])
            for node in ast.walk(tree):
                if isinstance(node, ast.Call) and called(node) in (
                        "range", "zip", "enumerate", "reversed", "items", "keys", "values"):
                    self.assertIn(node, fit, (path.name, node.lineno))

    def test_sets(self):
        for path, tree in self.each_tree():
            fit = []
            for node in ast.walk(tree):
                if isinstance(node, ast.Compare):
                    fit.extend([node.left] + node.comparators)
                if isinstance(node, ast.BinOp):
                    fit.extend([node.left, node.right])
                if isinstance(node, ast.Call) and called(node) in ("sorted", "len") and not node.keywords:
                    fit.extend(node.args)
            for node in ast.walk(tree):
                self.assertNotIsInstance(node, ast.Set, (path.name, getattr(node, "lineno", 0)))
                if isinstance(node, ast.Call) and called(node) in ("set", "frozenset"):
                    self.assertIn(node, fit, (path.name, node.lineno))

    def test_locals(self):
        for path, tree in self.each_tree():
            taken = set(dir(builtins))
            for node in tree.body:
                if isinstance(node, ast.ImportFrom):
                    taken.update(alias.asname or alias.name for alias in node.names)
                if isinstance(node, ast.ClassDef):
                    taken.add(node.name)
            for node in ast.walk(tree):
                if isinstance(node, ast.Name) and isinstance(node.ctx, ast.Store):
                    self.assertNotIn(node.id, taken, (path.name, node.lineno))
                if isinstance(node, ast.arg):
                    self.assertNotIn(node.arg, taken, (path.name, node.lineno))

    def test_imports(self):
        drawn = {}
        for path, tree in self.each_tree():
            drawn[path.stem] = []
            for node in ast.walk(tree):
                if isinstance(node, ast.ImportFrom):
                    self.assertEqual(node.level, 0, path)
                    self.assertIn(node, tree.body, path)
                    if node.module != "__future__":
                        self.assertRegex(node.module, r"^classtab\.[a-z0-9_]+$", path)
                        self.assertNotIn("*", [alias.name for alias in node.names], path)
                        drawn[path.stem].append(node.module.split(".")[1])
        while drawn:
            free = [name for name in drawn if not any(other in drawn for other in drawn[name])]
            self.assertNotEqual(free, [], "files that draw from one another")
            drawn = {name: drawn[name] for name in drawn if name not in free}


if __name__ == "__main__":
    unittest.main()
