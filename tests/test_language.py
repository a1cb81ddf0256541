"""The rules of the program's language that can be read off its files.

This is narrower than the rules in places: what the program does not need is
left out, and is added here when it is.
"""

import ast
import builtins
import tokenize
import unittest
from pathlib import Path

PACKAGE = Path(__file__).resolve().parent.parent / "flagfloors"
FILES = sorted(PACKAGE.rglob("*.py"))

LIBRARY = {
    "math": {"gcd", "lcm", "isqrt"}, "heapq": {"heappush", "heappop"},
    "itertools": {"product", "permutations"},
}
BUILTINS = set(
    "len range enumerate zip min max sum abs sorted reversed int str bool list tuple dict set "
    "isinstance ord repr any all divmod ValueError KeyError ZeroDivisionError".split()
)
METHODS = set(
    "append clear copy count endswith extend find get index insert isalnum isalpha isdigit "
    "items join keys pop partition replace setdefault split startswith strip update values".split()
)
WORDS = set(
    "type typing enum Enum Flag IntFlag Generic Protocol ABC namedtuple NamedTuple TypedDict "
    "register mro elements open input law version_info with_traceback add_note".split()
)
NODES = (
    ast.Module, ast.Import, ast.ImportFrom, ast.alias, ast.FunctionDef, ast.ClassDef, ast.arguments,
    ast.arg, ast.Expr, ast.Assign, ast.AugAssign, ast.Return, ast.If, ast.For, ast.While, ast.Raise,
    ast.Break, ast.Continue, ast.Pass, ast.Try, ast.ExceptHandler, ast.Delete, ast.Yield, ast.With,
    ast.withitem, ast.Name, ast.Load, ast.Store, ast.Del, ast.Constant, ast.Tuple, ast.List, ast.Dict,
    ast.Attribute, ast.Subscript, ast.Slice, ast.Call, ast.keyword, ast.ListComp, ast.DictComp,
    ast.GeneratorExp, ast.comprehension, ast.BinOp, ast.UnaryOp, ast.BoolOp, ast.Compare, ast.IfExp,
    ast.And, ast.Or, ast.Not, ast.USub, ast.Add, ast.Sub, ast.Mult, ast.FloorDiv, ast.Mod, ast.Pow,
    ast.Eq, ast.NotEq, ast.Lt, ast.LtE, ast.Gt, ast.GtE, ast.Is, ast.IsNot, ast.In, ast.NotIn,
    ast.JoinedStr, ast.FormattedValue, ast.Starred,
)
SINGLE = (list, tuple, dict, sorted, sum, min, max, any, all)


def trees():
    return {path: ast.parse(path.read_text(encoding="utf-8")) for path in FILES}


def bound_names(tree):
    """All names that a file gives to something, with their lines."""
    for node in ast.walk(tree):
        if isinstance(node, (ast.FunctionDef, ast.ClassDef)):
            yield node.name, node.lineno
        elif isinstance(node, ast.arg):
            yield node.arg, node.lineno
        elif isinstance(node, ast.Name) and isinstance(node.ctx, ast.Store):
            yield node.id, node.lineno
        elif isinstance(node, ast.ExceptHandler) and node.name:
            yield node.name, node.lineno


def imports(tree):
    return [node for node in tree.body if isinstance(node, ast.ImportFrom)]


def top_names(tree):
    found = {node.name for node in tree.body if isinstance(node, (ast.FunctionDef, ast.ClassDef))}
    for node in tree.body:
        if isinstance(node, ast.Assign):
            found |= {target.id for target in node.targets}
    return found


class Language(unittest.TestCase):
    def setUp(self):
        self.trees = trees()

    def test_files(self):
        self.assertTrue(FILES)
        for path in PACKAGE.rglob("*"):
            if "__pycache__" not in path.parts:
                self.assertRegex(path.name, r"^(__init__|[a-z][a-z0-9_]*)\.py$")
        for path in FILES:
            text = path.read_text(encoding="utf-8")
            self.assertTrue(all(" " <= sign <= "~" or sign == "\n" for sign in text), path)
            lines = text.splitlines()
            self.assertLessEqual(len(lines), 399, path)
            self.assertLessEqual(max(len(line) for line in lines), 120, path)

    def test_functions_are_short(self):
        for path, tree in self.trees.items():
            for node in ast.walk(tree):
                if isinstance(node, ast.FunctionDef):
                    self.assertLessEqual(node.end_lineno - node.lineno + 1, 40, (path, node.name))
                    if node.name != "__init__":
                        self.assertTrue(ast.get_docstring(node), (path, node.name))

    def test_only_known_kinds_of_nodes(self):
        for path, tree in self.trees.items():
            for node in ast.walk(tree):
                self.assertIsInstance(node, NODES, (path, getattr(node, "lineno", 0)))
                self.assertFalse(getattr(node, "decorator_list", []), path)
                if isinstance(node, ast.Constant):
                    self.assertIn(type(node.value), (int, str, bool, type(None)), path)

    def test_imports(self):
        for path, tree in self.trees.items():
            self.assertFalse([node for node in ast.walk(tree) if isinstance(node, ast.Import)])
            for node in imports(tree):
                names = {alias.name for alias in node.names}
                self.assertFalse([alias for alias in node.names if alias.asname], path)
                if node.module in LIBRARY:
                    self.assertLessEqual(names, LIBRARY[node.module], path)
                else:
                    home = PACKAGE / (node.module.removeprefix("flagfloors.") + ".py")
                    self.assertLessEqual(names, top_names(self.trees[home]), path)

    def test_no_two_files_import_from_each_other(self):
        ahead = {
            path.stem: [node.module.removeprefix("flagfloors.") for node in imports(tree)]
            for path, tree in self.trees.items()
        }
        done = set()
        while len(done) < len(ahead):
            ready = {
                name for name, modules in ahead.items()
                if name not in done and all(m in done or m in LIBRARY for m in modules)
            }
            self.assertTrue(ready, sorted(set(ahead) - done))
            done |= ready

    def test_module_level(self):
        for path, tree in self.trees.items():
            for place, node in enumerate(tree.body):
                if isinstance(node, ast.Expr):
                    self.assertEqual(place, 0, path)
                    self.assertIsInstance(node.value, ast.Constant)
                else:
                    self.assertIsInstance(
                        node, (ast.ImportFrom, ast.FunctionDef, ast.ClassDef, ast.Assign), path
                    )

    def test_names(self):
        for path, tree in self.trees.items():
            brought = {alias.name for node in imports(tree) for alias in node.names}
            brought |= {node.name for node in tree.body if isinstance(node, ast.ClassDef)}
            counts = {}
            for name, line in bound_names(tree):
                at = (path.name, line, name)
                counts[name] = counts.get(name, 0) + 1
                self.assertNotIn(name, vars(builtins), at)
                self.assertNotIn(name, WORDS, at)
                self.assertRegex(name, r"^(__(init|enter|exit)__|_|_?[A-Za-z][A-Za-z0-9_]*)$", at)
                if name in brought:
                    self.assertEqual(counts[name], 1, at)
            known = {name for name, _ in bound_names(tree)} | brought | BUILTINS
            for node in ast.walk(tree):
                if isinstance(node, ast.Name):
                    self.assertIn(node.id, known, (path, node.lineno))

    def test_top_names_are_bound_once(self):
        for path, tree in self.trees.items():
            names = [node.name for node in tree.body if hasattr(node, "name")]
            names += [t.id for node in tree.body if isinstance(node, ast.Assign) for t in node.targets]
            names += [alias.name for node in imports(tree) for alias in node.names]
            self.assertEqual(len(names), len(set(names)), path)

    def test_methods_and_calls(self):
        for path, tree in self.trees.items():
            own = {n.name for n in ast.walk(tree) if isinstance(n, ast.FunctionDef)}
            for node in ast.walk(tree):
                if isinstance(node, ast.Call) and isinstance(node.func, ast.Attribute):
                    self.assertIn(node.func.attr, METHODS | own, (path, node.lineno))
                if isinstance(node, ast.Call) and isinstance(node.func, ast.Name):
                    if node.func.id == "set":
                        self.fail((path, node.lineno))

    def test_stars_stand_in_targets_of_assignments(self):
        for path, tree in self.trees.items():
            for node in ast.walk(tree):
                if isinstance(node, ast.Starred):
                    self.assertIsInstance(node.ctx, ast.Store, (path, node.lineno))

    def test_no_name_is_imported_or_bound_in_vain(self):
        for path, tree in self.trees.items():
            read = {n.id for n in ast.walk(tree) if isinstance(n, ast.Name) and isinstance(n.ctx, ast.Load)}
            for node in imports(tree):
                self.assertLessEqual({alias.name for alias in node.names}, read, path)
            private = {name for name in top_names(tree) if name.startswith("_")}
            self.assertLessEqual(private, read, path)
            self.assertNotIn("_", read, path)

    def test_errors_are_created_on_the_spot(self):
        for path, tree in self.trees.items():
            for node in ast.walk(tree):
                if isinstance(node, ast.Raise):
                    self.assertIsInstance(node.exc, ast.Call, (path, node.lineno))
                    self.assertFalse(node.exc.keywords, (path, node.lineno))

    def test_generator_expressions_are_used_at_once(self):
        names = {one.__name__ for one in SINGLE} | {"join"}
        for path, tree in self.trees.items():
            direct = set()
            for node in ast.walk(tree):
                if isinstance(node, ast.Call):
                    name = getattr(node.func, "id", getattr(node.func, "attr", None))
                    if name in names:
                        direct |= {id(arg) for arg in node.args}
            for node in ast.walk(tree):
                if isinstance(node, ast.GeneratorExp):
                    self.assertIn(id(node), direct, (path, node.lineno))

    def test_what_a_loop_goes_over_is_not_changed_in_it(self):
        changing = {"append", "clear", "extend", "insert", "pop", "remove", "setdefault", "update"}
        for path, tree in self.trees.items():
            for loop in ast.walk(tree):
                if not isinstance(loop, ast.For):
                    continue
                over = {n.id for n in ast.walk(loop.iter) if isinstance(n, ast.Name)} - BUILTINS
                if isinstance(loop.iter, ast.Call) and getattr(loop.iter.func, "id", "") in (
                    "list", "tuple", "sorted", "range",
                ):
                    over = set()
                for node in (n for row in loop.body for n in ast.walk(row)):
                    if isinstance(node, ast.Call) and isinstance(node.func, ast.Attribute):
                        if node.func.attr in changing and isinstance(node.func.value, ast.Name):
                            self.assertNotIn(node.func.value.id, over, (path, node.lineno))
                    if isinstance(node, ast.Subscript) and isinstance(node.ctx, (ast.Store, ast.Del)):
                        self.assertNotIn(getattr(node.value, "id", ""), over, (path, node.lineno))

    def test_words_and_strings(self):
        for path, tree in self.trees.items():
            docs = {
                id(node.body[0].value)
                for node in ast.walk(tree)
                if isinstance(node, (ast.Module, ast.ClassDef, ast.FunctionDef))
                and node.body and isinstance(node.body[0], ast.Expr)
            }
            for node in ast.walk(tree):
                if isinstance(node, ast.Constant) and isinstance(node.value, str):
                    if id(node) not in docs:
                        self.assertNotIn("%", node.value, (path, node.lineno))
                        self.assertFalse(WORDS & set(node.value.split()), (path, node.lineno))
            with tokenize.open(path) as held:
                for token in tokenize.generate_tokens(held.readline):
                    if token.type == tokenize.NAME:
                        self.assertNotIn(token.string, WORDS, (path, token.start))
