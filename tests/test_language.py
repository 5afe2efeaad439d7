"""The rules for the files of the package, as far as they can be told from the files alone."""

import ast
import builtins
import pathlib
import re
import unittest
import warnings

FOLDER = pathlib.Path(__file__).resolve().parent.parent / "truestops"
LIBRARY = {
    "math": "gcd lcm isqrt comb perm factorial",
    "heapq": "heappush heappop heapify heapreplace heappushpop",
    "itertools": "product combinations permutations chain accumulate pairwise islice zip_longest",
    "collections": "defaultdict deque",
}
BUILTINS = set(
    "len range enumerate zip min max sum abs sorted reversed int str bool bytes list tuple dict set frozenset isinstance ord repr "
    "any all divmod pow getattr hasattr setattr iter next type map Exception ValueError TypeError KeyError IndexError LookupError "
    "ZeroDivisionError ArithmeticError OverflowError RuntimeError NotImplementedError AttributeError StopIteration "
    "NotImplemented super property staticmethod classmethod object".split()
)
METHODS = set(
    "append clear copy count endswith extend find get index insert isalnum isalpha isdigit islower isspace isupper items join keys "
    "ljust lower lstrip partition pop remove replace reverse rfind rjust rpartition rsplit rstrip setdefault split splitlines "
    "startswith strip update upper values zfill bit_length isascii".split()
)
ATTRIBUTES = set("count index title find get join lower upper split strip copy add".split())
NEVER = set("register mro elements open input law version_info with_traceback add_note".split())
NEVER_IN_STRINGS = set(
    "typing typing_extensions enum Enum IntEnum StrEnum Flag IntFlag Generic Protocol ABC ABCMeta namedtuple NamedTuple TypedDict "
    "TYPE_CHECKING abstractmethod".split()
)
BARRED_BEGINNINGS = r"_wall|_pe_|_dcw_|_enum_|_cm_|_twin_re_|_lay_|_law_|_stub_|_sre|_WallAttr"
NOT_ALLOWED = (
    ast.AsyncFunctionDef, ast.AsyncFor, ast.AsyncWith, ast.Await, ast.Global, ast.Div, ast.Set, ast.Yield, ast.YieldFrom,
    ast.Lambda, ast.GeneratorExp, ast.AnnAssign, ast.NamedExpr,
)


def files():
    return sorted(FOLDER.glob("*.py"))


def tree_of(file):
    return ast.parse(file.read_text("utf-8"))


def each_node(kind):
    for file in files():
        for node in ast.walk(tree_of(file)):
            if isinstance(node, kind):
                yield file.name, node


class Language(unittest.TestCase):
    def test_the_folder_holds_files_only(self):
        for path in FOLDER.iterdir():
            self.assertRegex(path.name, r"^[a-z][a-z0-9_]*\.py$|^__init__\.py$")

    def test_sizes_and_signs(self):
        for file in files():
            text = file.read_text("utf-8")
            self.assertLessEqual(len(text.split("\n")), 400, file.name)
            for line in text.split("\n"):
                self.assertLessEqual(len(line), 120, (file.name, line))
                self.assertRegex(line, r"^[ -~]*$", (file.name, line))
        for name, node in each_node(ast.FunctionDef):
            self.assertLessEqual(node.end_lineno - node.lineno + 1, 40, (name, node.name))

    def test_no_warnings(self):
        with warnings.catch_warnings():
            warnings.simplefilter("error")
            for file in files():
                compile(file.read_text("utf-8"), file.name, "exec")

    def test_imports(self):
        leads = {}
        for file in files():
            leads["truestops." + file.stem] = []
            tree = tree_of(file)
            for node in ast.walk(tree):
                self.assertNotIsInstance(node, ast.Import, file.name)
                if isinstance(node, ast.ImportFrom):
                    self.assertIn(node, tree.body)
                    self.assertTrue(all(alias.asname is None for alias in node.names))
                    self.look_at_import(file, node, leads["truestops." + file.stem])
        for start in leads:
            found, waiting = set(), list(leads[start])
            while waiting:
                module = waiting.pop()
                self.assertNotEqual(module, start, "a ring of imports")
                if module not in found:
                    found.add(module)
                    waiting.extend(leads[module])

    def look_at_import(self, file, node, leads):
        names = [alias.name for alias in node.names]
        if node.module in LIBRARY:
            self.assertLessEqual(set(names), set(LIBRARY[node.module].split()))
            return
        self.assertRegex(node.module, r"^truestops\.[a-z_]+$", file.name)
        leads.append(node.module)
        source = tree_of(FOLDER / (node.module.partition(".")[2] + ".py"))
        defined = [inner.name for inner in source.body if isinstance(inner, (ast.FunctionDef, ast.ClassDef))]
        defined += [inner.targets[0].id for inner in source.body if isinstance(inner, ast.Assign)]
        self.assertLessEqual(set(names), set(defined), (file.name, node.module))

    def test_module_level(self):
        for file in files():
            bound = []
            for at, node in enumerate(tree_of(file).body):
                if isinstance(node, ast.Assign):
                    self.assertIsInstance(node.targets[0], ast.Name)
                    bound.append(node.targets[0].id)
                elif isinstance(node, ast.ImportFrom):
                    bound += [alias.name for alias in node.names]
                elif isinstance(node, ast.Expr):
                    self.assertEqual(at, 0, file.name)
                else:
                    self.assertIsInstance(node, (ast.FunctionDef, ast.ClassDef), file.name)
                    bound.append(node.name)
            self.assertEqual(len(bound), len(set(bound)), file.name)
            self.assertFalse(set(bound) & set(dir(builtins)), file.name)

    def test_what_is_not_allowed_or_not_needed(self):
        for name, node in each_node(NOT_ALLOWED):
            self.fail((name, node.lineno, node))
        for name, node in each_node((ast.FunctionDef, ast.ClassDef)):
            self.assertFalse(node.decorator_list, (name, node.name))

    def test_literals(self):
        for name, node in each_node(ast.Constant):
            self.assertNotIsInstance(node.value, (float, complex, bytes), (name, node.lineno))
            if isinstance(node.value, str):
                self.assertFalse(set(re.findall(r"\w+", node.value)) & NEVER_IN_STRINGS and "\n" not in node.value, (name, node.lineno))
        for name, node in each_node((ast.Call, ast.Assign, ast.Compare, ast.Return, ast.JoinedStr)):
            for inner in ast.walk(node):
                if isinstance(inner, ast.Constant) and isinstance(inner.value, str):
                    self.assertNotIn("%", inner.value, (name, node.lineno))

    def test_names(self):
        for file in files():
            tree = tree_of(file)
            barred = {node.name for node in tree.body if isinstance(node, ast.ClassDef)}
            for node in tree.body:
                if isinstance(node, ast.ImportFrom):
                    barred |= {alias.name for alias in node.names}
            for node in ast.walk(tree):
                if isinstance(node, ast.arg) or isinstance(node, ast.Name) and isinstance(node.ctx, ast.Store):
                    name = node.arg if isinstance(node, ast.arg) else node.id
                    self.assertNotIn(name, barred | set(dir(builtins)) | NEVER, (file.name, node.lineno))
                if isinstance(node, ast.Name) and isinstance(node.ctx, ast.Load) and node.id in dir(builtins):
                    self.assertIn(node.id, BUILTINS, (file.name, node.lineno))
                if isinstance(node, ast.Attribute):
                    self.assertNotIn(node.attr, NEVER, (file.name, node.lineno))

    def test_beginnings_of_names(self):
        for file in files():
            text = file.read_text("utf-8")
            self.assertNotRegex(text, r"\b(" + BARRED_BEGINNINGS + ")", file.name)
            self.assertNotRegex(text, r"\b_(cold|tuplegetter|outside|record|written_out|member_names)", file.name)

    def test_methods(self):
        own = set()
        for _, node in each_node(ast.ClassDef):
            methods = [inner.name for inner in node.body if isinstance(inner, ast.FunctionDef)]
            stored = [inner.attr for inner in ast.walk(node) if isinstance(inner, ast.Attribute) and isinstance(inner.ctx, ast.Store)]
            self.assertEqual(len(methods), len(set(methods)), node.name)
            self.assertFalse(set(methods) & set(stored), node.name)
            own |= set(methods)
        for name, node in each_node(ast.Call):
            if isinstance(node.func, ast.Attribute):
                self.assertIn(node.func.attr, own | METHODS, (name, node.lineno))

    def test_methods_and_attributes_have_no_names_of_builtin_values(self):
        theirs = {name for kind in (str, bytes, int, list, tuple, dict, set, frozenset) for name in dir(kind) if name[0] != "_"}
        barred_methods = theirs - (METHODS | {"add", "discard"}) | {"items", "keys", "values"}
        barred_attributes = theirs - ATTRIBUTES | {"args", "format_map"}
        for name, node in each_node(ast.ClassDef):
            for inner in ast.walk(node):
                if isinstance(inner, ast.FunctionDef):
                    self.assertNotIn(inner.name, barred_methods, (name, inner.lineno))
        for name, node in each_node(ast.Attribute):
            if isinstance(node.ctx, ast.Store):
                self.assertNotIn(node.attr, barred_attributes, (name, node.lineno))

    def test_is_beside_none_true_and_false_only(self):
        for name, node in each_node(ast.Compare):
            for sign, right in zip(node.ops, node.comparators):
                if isinstance(sign, (ast.Is, ast.IsNot)):
                    by_class = isinstance(node.left, ast.Call) and ast.unparse(node.left.func) == "type"
                    self.assertTrue(by_class or isinstance(right, ast.Constant), (name, node.lineno))

    def test_what_a_loop_goes_over_is_not_changed_in_it(self):
        for name, node in each_node(ast.For):
            over = {inner.id for inner in ast.walk(node.iter) if isinstance(inner, ast.Name)}
            for inner in [part for row in node.body for part in ast.walk(row)]:
                if isinstance(inner, ast.Call) and isinstance(inner.func, ast.Attribute) and isinstance(inner.func.value, ast.Name):
                    if inner.func.attr in ("append", "extend", "pop", "insert", "remove", "clear", "update", "setdefault"):
                        self.assertNotIn(inner.func.value.id, over - {"self"}, (name, node.lineno))


if __name__ == "__main__":
    unittest.main()
