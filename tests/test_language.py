"""The rules L1 to L28, as far as they can be asked of the files one by one; some are asked more narrowly here."""

import ast
import builtins
import re
import unittest
from pathlib import Path

PACKAGE = Path(__file__).resolve().parent.parent / "feltstone"
FILES = sorted(PACKAGE.glob("*.py"))

LIBRARY = {"math": {"gcd", "lcm", "isqrt", "comb", "perm", "factorial"},
           "heapq": {"heappush", "heappop", "heapify", "heapreplace", "heappushpop"}}
BUILTINS = set(
    "len range enumerate zip min max sum abs sorted reversed int str bool list tuple dict set frozenset isinstance ord "
    "repr any all divmod iter next map property staticmethod classmethod super Exception ValueError TypeError KeyError "
    "IndexError LookupError ZeroDivisionError ArithmeticError OverflowError RuntimeError NotImplementedError "
    "NotImplemented".split())
METHODS = set(
    "append clear copy count endswith extend find get index insert isalnum isalpha isdigit islower isspace isupper items "
    "join keys ljust lower lstrip partition pop remove replace reverse rfind rjust rpartition rsplit rstrip setdefault "
    "split splitlines startswith strip update upper values zfill bit_length title capitalize swapcase casefold center "
    "expandtabs removeprefix removesuffix rindex isascii isdecimal isnumeric istitle isidentifier isprintable add "
    "discard".split())
NOT_USED = set(
    "register mro elements open input law version_info with_traceback add_note attrgetter breakpoint builtins compile "
    "copyright credits delattr dir eval exec exit gc getattr globals hasattr help id importlib license locals "
    "methodcaller os quit setattr type vars sys format format_map".split())
SPECIAL = {"__init__", "__eq__", "__len__", "__iter__", "__contains__", "__enter__", "__exit__"}
BARRED = re.compile(r"\b(typing|typing_extensions|enum|Enum|IntEnum|Flag|Generic|Protocol|ABC|ABCMeta|namedtuple|"
                    r"NamedTuple|TypedDict|TYPE_CHECKING|abstractmethod)\b|dataclass|overload|contextmanager|_wall")
BUILTIN_METHODS = {name for kind in (str, bytes, int, list, tuple, dict, set) for name in dir(kind) if name[0] != "_"}


def bound_names(tree):
    """The names that a tree binds, with the nodes that bind them."""
    for node in ast.walk(tree):
        if isinstance(node, ast.Name) and isinstance(node.ctx, ast.Store):
            yield node.id, node
        elif isinstance(node, ast.arg):
            yield node.arg, node
        elif isinstance(node, ast.ExceptHandler) and node.name:
            yield node.name, node


def told_names(body):
    """The names that the statements at module level bind, in order."""
    for node in body:
        if isinstance(node, (ast.FunctionDef, ast.ClassDef)):
            yield node.name
        elif isinstance(node, ast.ImportFrom):
            yield from (alias.asname or alias.name for alias in node.names)
        elif isinstance(node, ast.Assign):
            yield node.targets[0].id


def own_names(path):
    body = ast.parse(path.read_text()).body
    return set(told_names([node for node in body if not isinstance(node, ast.ImportFrom)]))


class Language(unittest.TestCase):
    def each(self):
        for path in FILES:
            text = path.read_text(encoding="utf-8")
            yield path.name, text, ast.parse(text)

    def nodes(self, *kinds):
        for name, _, tree in self.each():
            for node in ast.walk(tree):
                if isinstance(node, kinds):
                    yield f"{name}:{getattr(node, 'lineno', 0)}", node

    def test_files(self):
        found = [path for path in PACKAGE.iterdir() if path.name != "__pycache__"]
        self.assertEqual(sorted(found), FILES)
        self.assertTrue(all(re.fullmatch(r"[a-z][a-z0-9_]*\.py|__init__\.py", path.name) for path in FILES))

    def test_characters_and_sizes(self):
        for file, text, _ in self.each():
            lines = text.splitlines()
            self.assertLessEqual(len(lines), 399, file)
            for k, line in enumerate(lines):
                self.assertLessEqual(len(line), 120, f"{file}:{k + 1}")
                self.assertRegex(line, r"\A[ -~]*\Z", f"{file}:{k + 1}")
            self.assertNotRegex(text, BARRED, file)
        for where, node in self.nodes(ast.FunctionDef):
            self.assertLessEqual(node.end_lineno - node.lineno + 1, 40, where)

    def test_module_level(self):
        for file, _, tree in self.each():
            rest = tree.body[1:]
            self.assertIsNotNone(ast.get_docstring(tree), file)
            for node in rest:
                self.assertIsInstance(node, (ast.ImportFrom, ast.FunctionDef, ast.ClassDef, ast.Assign), file)
                if isinstance(node, ast.Assign):
                    ast.literal_eval(node.value)
            names = list(told_names(rest))
            self.assertEqual(len(names), len(set(names)), file)
            self.assertFalse(set(names) & set(dir(builtins)), file)

    def test_imports(self):
        for where, node in self.nodes(ast.Import, ast.ImportFrom):
            self.assertIsInstance(node, ast.ImportFrom, where)
            self.assertEqual(node.level, 0, where)
            self.assertFalse([alias.asname for alias in node.names if alias.asname], where)
            names = {alias.name for alias in node.names}
            if node.module in LIBRARY:
                self.assertLessEqual(names, LIBRARY[node.module], where)
            else:
                package, _, module = node.module.partition(".")
                self.assertEqual(package, "feltstone", where)
                self.assertLessEqual(names, own_names(PACKAGE / f"{module}.py"), where)

    def test_names(self):
        for file, _, tree in self.each():
            held = {name for node in tree.body if isinstance(node, (ast.ImportFrom, ast.ClassDef))
                    for name in told_names([node])}
            for name, node in bound_names(tree):
                where = f"{file}:{node.lineno}"
                self.assertRegex(name, r"\A(_?[A-Za-z][A-Za-z0-9_]*|_)\Z", where)
                self.assertNotIn(name, set(dir(builtins)) | NOT_USED | held, where)

    def test_builtins(self):
        for file, _, tree in self.each():
            held = set(told_names(tree.body)) | {name for name, _ in bound_names(tree)}
            for node in ast.walk(tree):
                if isinstance(node, ast.Name) and isinstance(node.ctx, ast.Load) and node.id not in held:
                    self.assertIn(node.id, BUILTINS, f"{file}:{node.lineno}")

    def test_functions_and_classes(self):
        for where, node in self.nodes(ast.FunctionDef, ast.ClassDef, ast.Lambda):
            if isinstance(node, ast.ClassDef):
                self.assertEqual(node.decorator_list, [], where)
                self.assertTrue(all(isinstance(one, (ast.FunctionDef, ast.Expr, ast.Assign)) for one in node.body), where)
            elif isinstance(node, ast.FunctionDef):
                self.assertLessEqual({ast.unparse(one) for one in node.decorator_list}, {"property"}, where)
                self.assertTrue(not node.name.startswith("__") or node.name in SPECIAL, where)
                self.assertIsNone(node.returns, where)

    def test_statements_and_expressions(self):
        never = (ast.Global, ast.AsyncFunctionDef, ast.Await, ast.AnnAssign, ast.GeneratorExp, ast.Div, ast.NamedExpr)
        for where, node in self.nodes(*never):
            self.fail(f"{where} {node}")
        for where, node in self.nodes(ast.Try):
            for handler in node.handlers:
                self.assertIsNotNone(handler.type, where)
        for where, node in self.nodes(ast.BinOp):
            if isinstance(node.op, ast.Pow):
                self.assertIn(getattr(node.right, "value", None), range(65), where)
        for where, node in self.nodes(ast.Constant):
            self.assertNotIsInstance(node.value, (float, complex, bytes), where)
            if isinstance(node.value, str):
                self.assertNotIn("\x25", node.value, where)
        for where, node in self.nodes(ast.Compare):
            for sign, right in zip(node.ops, node.comparators):
                if isinstance(sign, (ast.Is, ast.IsNot)):
                    self.assertIn(getattr(right, "value", 0), (None, True, False), where)

    def test_methods_of_builtin_values(self):
        own = {node.name for _, node in self.nodes(ast.FunctionDef)}
        for where, node in self.nodes(ast.Call):
            if isinstance(node.func, ast.Attribute) and node.func.attr not in own:
                self.assertIn(node.func.attr, METHODS, where)
        for name in own:
            self.assertNotIn(name, NOT_USED | (BUILTIN_METHODS - METHODS) | set(dir(builtins)))

    def test_sets_are_not_iterated_literals(self):
        for where, node in self.nodes(ast.For, ast.comprehension):
            self.assertNotIsInstance(node.iter, (ast.Set, ast.SetComp), where)

    def test_raised_errors_are_made_on_the_spot(self):
        for where, node in self.nodes(ast.Raise):
            self.assertTrue(node.exc is None or isinstance(node.exc, ast.Call) and isinstance(node.exc.func, ast.Name), where)

    def test_no_circle_of_imports(self):
        after = {path.stem: {node.module.partition(".")[2] for node in ast.parse(path.read_text()).body
                             if isinstance(node, ast.ImportFrom) and node.module.startswith("feltstone.")}
                 for path in FILES}
        while after:
            free = [name for name, needed in after.items() if not needed & set(after)]
            self.assertTrue(free, f"these import from each other: {sorted(after)}")
            for name in free:
                del after[name]


if __name__ == "__main__":
    unittest.main()
