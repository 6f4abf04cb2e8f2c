"""The package's files keep to the part of Python that is told for them, as far as a plain look can see."""

import ast
import builtins
import pathlib
import re
import unittest

ROOT = pathlib.Path(__file__).resolve().parent.parent
PACKAGE = ROOT / "likepieces"

ALLOWED_OWN = set(
    "len range enumerate zip min max sum abs sorted reversed int str bool bytes list tuple dict set frozenset "
    "isinstance ord repr any all divmod Exception ValueError TypeError KeyError IndexError LookupError "
    "ZeroDivisionError ArithmeticError OverflowError RuntimeError NotImplementedError AttributeError "
    "StopIteration".split()
)
METHODS = set(
    "append clear copy count endswith extend find get index insert isalnum isalpha isdigit islower isspace isupper "
    "items join keys ljust lower lstrip partition pop remove replace reverse rfind rjust rpartition rsplit rstrip "
    "setdefault split splitlines startswith strip update upper values zfill bit_length add discard sort "
    "isascii isdecimal __init__".split()
)
DUNDER_METHODS = {"__init__", "__eq__", "__repr__", "__str__", "__len__"}
NOT_USED = set(
    "register mro elements open input version_info with_traceback add_note attrgetter breakpoint builtins compile "
    "copyright credits delattr dir eval exec exit gc getattr globals hasattr help id importlib license locals "
    "methodcaller os quit setattr super type vars sys".split()
)
BAD_WORDS = re.compile(
    r"\b(type|typing|typing_extensions|enum|Enum|IntEnum|StrEnum|Flag|IntFlag|Generic|Protocol|ABC|ABCMeta|namedtuple|"
    r"NamedTuple|TypedDict|TYPE_CHECKING|abstractmethod)\b|dataclass|overload|contextmanager"
)
KEYWORDS = {"sorted": {"key", "reverse"}, "min": {"key", "default"}, "max": {"key", "default"}, "sum": {"start"},
            "enumerate": {"start"}, "zip": {"strict"}, "sort": {"key", "reverse"}}
WALKED = {"zip", "enumerate", "reversed", "range"}
WALKERS = {"list", "tuple", "dict", "sorted", "sum", "any", "all", "enumerate", "zip", "bytes", "min", "max"}
NODES = (
    ast.Module, ast.FunctionDef, ast.arguments, ast.arg, ast.ClassDef, ast.ImportFrom, ast.alias, ast.Expr, ast.Assign,
    ast.AugAssign, ast.If, ast.While, ast.For, ast.Return, ast.Break, ast.Continue, ast.Pass, ast.Raise, ast.Try,
    ast.ExceptHandler, ast.Assert, ast.Delete, ast.Name, ast.Constant, ast.Tuple, ast.List, ast.Dict, ast.Set,
    ast.BinOp, ast.UnaryOp, ast.BoolOp, ast.Compare, ast.IfExp, ast.Call, ast.keyword, ast.Attribute, ast.Subscript,
    ast.Slice, ast.ListComp, ast.DictComp, ast.SetComp, ast.comprehension, ast.JoinedStr, ast.FormattedValue,
    ast.Lambda, ast.Starred, ast.expr_context, ast.operator, ast.unaryop, ast.boolop, ast.cmpop,
)


def files():
    return sorted(PACKAGE.glob("*.py"))


def trees():
    return {path.stem: ast.parse(path.read_text()) for path in files()}


def defs(tree):
    return [node for node in ast.walk(tree) if isinstance(node, ast.FunctionDef)]


def top_names(tree):
    told = []
    for row in tree.body:
        if isinstance(row, (ast.FunctionDef, ast.ClassDef)):
            told.append(row.name)
        elif isinstance(row, ast.ImportFrom):
            told.extend(alias.asname or alias.name for alias in row.names)
        elif isinstance(row, ast.Assign):
            told.extend(target.id for target in row.targets)
    return told


def stored(tree):
    names = [node.id for node in ast.walk(tree) if isinstance(node, ast.Name) and not isinstance(node.ctx, ast.Load)]
    names += [node.name for node in ast.walk(tree) if isinstance(node, ast.ExceptHandler) and node.name]
    return names + [node.arg for node in ast.walk(tree) if isinstance(node, ast.arg)]


def parents(tree):
    return {child: node for node in ast.walk(tree) for child in ast.iter_child_nodes(node)}


class Language(unittest.TestCase):
    def test_files(self):
        for path in PACKAGE.rglob("*"):
            if "__pycache__" not in path.parts:
                self.assertTrue(path.is_file() and path.suffix == ".py", path)
                self.assertRegex(path.stem, r"^([a-z][a-z0-9_]*|__init__|__main__)$")
                self.assertNotIn(path.stem, dir(builtins))
        self.assertIn("__init__", trees())
        self.assertLessEqual(len(files()), 100)

    def test_rows_and_signs(self):
        for path in files():
            text = path.read_bytes().decode("ascii")
            self.assertTrue(all(sign == "\n" or " " <= sign <= "~" for sign in text), path)
            rows = text.splitlines()
            self.assertLessEqual(len(rows), 400, path)
            self.assertLessEqual(max(len(row) for row in rows), 120, path)
            self.assertIsNone(BAD_WORDS.search(text), path)
            for name, escape in re.findall(r"()\\(.)", text):
                self.assertIn(escape, "nt\\\"'")

    def test_kinds_of_rows_and_expressions(self):
        for name, tree in trees().items():
            for node in ast.walk(tree):
                where = (name, getattr(node, "lineno", 0), node)
                self.assertIsInstance(node, NODES, where)
                self.assertNotIsInstance(node, (ast.Div, ast.MatMult), where)
                if isinstance(node, (ast.For, ast.While)):
                    self.assertEqual(node.orelse, [], where)
                if isinstance(node, ast.Starred):
                    self.assertIsInstance(node.ctx, ast.Store, where)
                if isinstance(node, ast.Constant):
                    self.assertIsInstance(node.value, (int, str, bytes, bool, None.__class__), where)
                    if isinstance(node.value, str):
                        self.assertNotIn("%", node.value, where)
                if isinstance(node, ast.FormattedValue):
                    self.assertIsNone(node.format_spec, where)
                if isinstance(node, ast.Compare):
                    for sign, right in zip(node.ops, node.comparators):
                        if isinstance(sign, (ast.Is, ast.IsNot)):
                            self.assertIn(ast.unparse(right), ("None", "True", "False"), where)
                if isinstance(node, ast.BinOp) and isinstance(node.op, ast.Pow):
                    self.assertIsInstance(node.right, ast.Constant, where)
                if isinstance(node, ast.ExceptHandler):
                    self.assertIsNotNone(node.type, where)
                    self.assertNotIn(ast.unparse(node.type), ("Exception", "TypeError"), where)

    def test_top_of_files(self):
        for name, tree in trees().items():
            self.assertIsNotNone(ast.get_docstring(tree), name)
            for row in tree.body[1:]:
                self.assertIsInstance(row, (ast.ImportFrom, ast.FunctionDef, ast.ClassDef, ast.Assign), name)
                if isinstance(row, ast.Assign):
                    self.assertEqual(len(row.targets), 1)
                    for node in ast.walk(row.value):
                        self.assertNotIsInstance(node, (ast.Call, ast.Lambda, ast.ListComp, ast.DictComp, ast.Set), name)
                    if isinstance(row.value, (ast.List, ast.Dict)):
                        within = list(ast.walk(row.value))[1:]
                        self.assertFalse([node for node in within if isinstance(node, (ast.List, ast.Dict))], name)
            told = top_names(tree)
            self.assertEqual(len(told), len(set(told)), name)
            self.assertFalse(set(told) & set(dir(builtins)), name)

    def test_defs_and_classes(self):
        for name, tree in trees().items():
            for node in defs(tree):
                where = (name, node.name)
                self.assertLessEqual(node.end_lineno - node.lineno + 1, 40, where)
                self.assertEqual(node.decorator_list, [], where)
                self.assertIsNone(node.returns, where)
                taken = node.args
                self.assertTrue(taken.vararg is None and taken.kwarg is None and not taken.posonlyargs, where)
                self.assertFalse([arg for arg in ast.walk(taken) if isinstance(arg, ast.arg) and arg.annotation], where)
            for node in ast.walk(tree):
                if isinstance(node, ast.ClassDef):
                    self.assertIn(node, tree.body)
                    self.assertTrue(len(node.bases) <= 1 and not node.decorator_list and not node.keywords)
                    for row in node.body:
                        plain = isinstance(row, ast.Expr) and isinstance(row.value, ast.Constant)
                        self.assertTrue(plain or isinstance(row, ast.FunctionDef), (name, node.name))

    def test_names(self):
        for name, tree in trees().items():
            drawn = [a.asname or a.name for row in tree.body if isinstance(row, ast.ImportFrom) for a in row.names]
            classes = [row.name for row in tree.body if isinstance(row, ast.ClassDef)]
            given = stored(tree) + [node.name for node in defs(tree)]
            for word in given + [node.attr for node in ast.walk(tree) if isinstance(node, ast.Attribute)]:
                if word not in DUNDER_METHODS:
                    self.assertRegex(word, r"^[A-Za-z][A-Za-z0-9_]*$", name)
                    self.assertNotIn(word, NOT_USED, name)
            for word in stored(tree):
                self.assertNotIn(word, dir(builtins), name)
                self.assertNotIn(word, drawn + classes, name)
            known = set(given) | set(top_names(tree)) | ALLOWED_OWN
            for node in ast.walk(tree):
                if isinstance(node, ast.Name):
                    self.assertIn(node.id, known, (name, node.lineno))

    def test_imports(self):
        all_trees = trees()
        draws = {}
        for name, tree in all_trees.items():
            for node in ast.walk(tree):
                if isinstance(node, ast.ImportFrom):
                    self.assertIn(node, tree.body)
                    package, dot, source = node.module.partition(".")
                    self.assertEqual((package, node.level), ("likepieces", 0), name)
                    draws.setdefault(name, set()).add(source)
                    for alias in node.names:
                        own = [row for row in all_trees[source].body if not isinstance(row, ast.ImportFrom)]
                        self.assertIn(alias.name, top_names(ast.Module(own, [])), (name, source))
                        used = [n for n in ast.walk(tree) if isinstance(n, ast.Name) and n.id == alias.name]
                        self.assertTrue(used, (name, alias.name))

        def reached(name, way):
            self.assertNotIn(name, way)
            for source in draws.get(name, ()):
                reached(source, way + (name,))

        for name in all_trees:
            reached(name, ())

    def test_calls(self):
        own_methods = {
            row.name for tree in trees().values() for node in ast.walk(tree) if isinstance(node, ast.ClassDef)
            for row in node.body if isinstance(row, ast.FunctionDef)
        }
        for name, tree in trees().items():
            above = parents(tree)
            for node in ast.walk(tree):
                if not isinstance(node, ast.Call):
                    continue
                where = (name, node.lineno)
                called = node.func.id if isinstance(node.func, ast.Name) else getattr(node.func, "attr", "")
                if isinstance(node.func, ast.Attribute):
                    self.assertIn(called, METHODS | own_methods, where)
                if called in ALLOWED_OWN | METHODS:
                    for word in node.keywords:
                        self.assertIn(word.arg, KEYWORDS.get(called, ()), where)
                if called in WALKED or called in ("items", "keys", "values"):
                    self.walked_at_once(node, above[node], where)
                if called in ("set", "frozenset"):
                    self.set_on_the_spot(node, above[node], where)

    def walked_at_once(self, node, around, where):
        if isinstance(around, (ast.For, ast.comprehension)):
            self.assertEqual(around.iter, node, where)
        elif isinstance(around, ast.Compare):
            self.assertIsInstance(around.ops[0], (ast.In, ast.NotIn), where)
        else:
            self.assertIsInstance(around, ast.Call, where)
            walker = getattr(around.func, "id", getattr(around.func, "attr", ""))
            backward = ast.unparse(around).startswith("reversed(range(")
            self.assertTrue(walker in WALKERS or walker == "join" or backward, where)

    def set_on_the_spot(self, node, around, where):
        kept = isinstance(around, ast.Assign) and isinstance(around.targets[0], ast.Name)
        asked = isinstance(around, (ast.Compare, ast.BinOp))
        handed = isinstance(around, ast.Call) and getattr(around.func, "id", "") in ("len", "sorted")
        self.assertTrue(kept or asked or handed, where)


if __name__ == "__main__":
    unittest.main()
