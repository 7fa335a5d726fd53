"""That the package keeps to LANGUAGE.md, as far as its text shows it.

The checks are narrower than the rules in places: what the package does without is refused here.
"""

import ast
import builtins
import os
import re
import unittest

HERE = os.path.dirname(os.path.abspath(__file__))
PACKAGE = os.path.join(os.path.dirname(HERE), "handalong")

LIBRARY = {
    "heapq": {"heappush", "heappop", "heapify", "heapreplace", "heappushpop"},
    "math": {"gcd", "lcm", "isqrt", "comb", "perm", "factorial"},
    "itertools": {"product", "combinations", "permutations"},
}
BUILTINS = set("""len range enumerate zip min max sum abs sorted reversed int str bool list tuple dict isinstance ord repr
any all divmod Exception ValueError TypeError KeyError IndexError LookupError ZeroDivisionError NotImplemented""".split())
METHODS = set("""append clear copy count endswith extend find get index insert isalnum isalpha isdigit islower isspace
isupper items join keys ljust lower lstrip partition pop remove replace reverse rfind rjust rpartition rsplit rstrip
setdefault split splitlines startswith strip update upper values zfill bit_length""".split())
DUNDERS = {"__init__", "__eq__", "__repr__", "__str__", "__len__"}
BARRED_NAMES = {"register", "mro", "elements", "open", "input", "law", "version_info", "with_traceback", "add_note"}
BARRED_WORDS = set("""type typing typing_extensions enum Enum IntEnum StrEnum Flag Generic Protocol ABC ABCMeta namedtuple
NamedTuple TypedDict TYPE_CHECKING abstractmethod dataclass overload contextmanager _wall _WallAttr""".split())
STATEMENTS = (ast.Assign, ast.AugAssign, ast.If, ast.While, ast.For, ast.Return, ast.Break, ast.Continue, ast.Pass, ast.Raise,
              ast.Try, ast.Expr, ast.FunctionDef, ast.ClassDef, ast.ImportFrom)
KEYWORDS = {"sorted": {"key", "reverse"}, "min": {"key", "default"}, "max": {"key", "default"}, "sum": {"start"},
            "enumerate": {"start"}, "zip": {"strict"}}
FEEDERS = {"zip", "enumerate", "reversed", "map"}


def sources():
    found = []
    for folder, _, names in os.walk(PACKAGE):
        if os.path.basename(folder) != "__pycache__":
            found += [os.path.join(folder, name) for name in sorted(names)]
    return found


def parsed():
    for path in sources():
        with open(path, encoding="utf-8") as file:
            text = file.read()
        tree = ast.parse(text, path)
        for node in ast.walk(tree):
            for child in ast.iter_child_nodes(node):
                child.above = node
        yield os.path.basename(path), text, tree


def own_names():
    """The methods and attributes of the package's classes."""
    found = set()
    for _, _, tree in parsed():
        for node in ast.walk(tree):
            if isinstance(node, ast.ClassDef):
                found |= {part.name for part in node.body if isinstance(part, ast.FunctionDef)}
            if isinstance(node, ast.Attribute) and isinstance(node.ctx, ast.Store):
                found.add(node.attr)
    return found


def bound_names(function):
    """The parameters and local names of a function."""
    found = {arg.arg for arg in function.args.args + function.args.kwonlyargs}
    for node in ast.walk(function):
        if isinstance(node, ast.Name) and isinstance(node.ctx, ast.Store):
            found.add(node.id)
        if isinstance(node, ast.ExceptHandler) and node.name:
            found.add(node.name)
    return found


class Language(unittest.TestCase):
    def test_files(self):
        names = [os.path.relpath(path, PACKAGE) for path in sources()]
        self.assertIn("__init__.py", names)
        self.assertLessEqual(len(names), 100)
        for name in names:
            self.assertRegex(name, r"^([a-z][a-z0-9_]*|__init__|__main__)\.py$")
            self.assertNotIn(name[:-3], set(dir(builtins)) | {"site", "test", "tests", "conftest", "testing"})

    def test_sizes_and_characters(self):
        for name, text, tree in parsed():
            self.assertTrue(text.endswith("\n"), name)
            self.assertLessEqual(len(text.splitlines()), 399, name)
            for line in text.splitlines():
                self.assertLessEqual(len(line), 120, (name, line))
                self.assertRegex(line, r"^[ -~]*$", name)
                self.assertEqual(line, line.rstrip(), name)
            for node in ast.walk(tree):
                if isinstance(node, ast.FunctionDef):
                    self.assertLessEqual(node.end_lineno - node.lineno + 1, 40, (name, node.name))

    def test_imports(self):
        imports = {}
        for name, _, tree in parsed():
            imports[name] = set()
            behind = False
            for at, node in enumerate(tree.body):
                if isinstance(node, ast.ImportFrom):
                    self.assertFalse(behind, name)
                    self.assertEqual(node.level, 0)
                    self.assertTrue(all(alias.asname is None and alias.name != "*" for alias in node.names))
                    names = {alias.name for alias in node.names}
                    if node.module in LIBRARY:
                        self.assertLessEqual(names, LIBRARY[node.module], name)
                    else:
                        self.assertRegex(node.module, r"^handalong\.[a-z_]+$")
                        imports[name].add(node.module.split(".")[1] + ".py")
                elif not (at == 0 and isinstance(node, ast.Expr)):
                    behind = True
            used = {node.id for node in ast.walk(tree) if isinstance(node, ast.Name)}
            for node in tree.body:
                if isinstance(node, ast.ImportFrom):
                    self.assertLessEqual({alias.name for alias in node.names}, used, name)
        self.no_circle(imports)

    def no_circle(self, imports):
        left = dict(imports)
        while left:
            free = [name for name in left if not left[name] & set(left)]
            self.assertTrue(free, left)
            for name in free:
                del left[name]

    def test_imports_name_the_defining_file(self):
        defined = {}
        for name, _, tree in parsed():
            defined[name] = set()
            for node in tree.body:
                if isinstance(node, (ast.FunctionDef, ast.ClassDef)):
                    self.assertNotIn(node.name, defined[name])
                    defined[name].add(node.name)
                if isinstance(node, ast.Assign):
                    defined[name] |= {target.id for target in node.targets}
        for name, _, tree in parsed():
            for node in tree.body:
                if isinstance(node, ast.ImportFrom) and node.module not in LIBRARY:
                    told = {alias.name for alias in node.names}
                    self.assertLessEqual(told, defined[node.module.split(".")[1] + ".py"], name)

    def test_module_level(self):
        for name, _, tree in parsed():
            for node in tree.body:
                self.assertIsInstance(node, (ast.Expr, ast.ImportFrom, ast.FunctionDef, ast.ClassDef, ast.Assign), name)
                if isinstance(node, ast.Expr):
                    self.assertIsInstance(node.value, ast.Constant)
                if isinstance(node, ast.Assign):
                    self.assertEqual(len(node.targets), 1)
                    self.assertIsInstance(node.targets[0], ast.Name)
                    ast.literal_eval(node.value)
                if isinstance(node, ast.ClassDef):
                    self.assertTrue(all(isinstance(part, (ast.FunctionDef, ast.Expr)) for part in node.body), name)

    def test_statements_and_expressions(self):
        barred = (ast.GeneratorExp, ast.Lambda, ast.Set, ast.SetComp, ast.Yield, ast.YieldFrom, ast.Await, ast.NamedExpr,
                  ast.Global, ast.Nonlocal, ast.With, ast.Delete, ast.Div, ast.MatMult, ast.AnnAssign)
        for name, _, tree in parsed():
            for node in ast.walk(tree):
                place = (name, getattr(node, "lineno", 0))
                self.assertNotIsInstance(node, barred, place)
                if isinstance(node, ast.stmt):
                    self.assertIsInstance(node, STATEMENTS, place)
                if isinstance(node, (ast.FunctionDef, ast.ClassDef)):
                    self.assertEqual(node.decorator_list, [], place)
                    self.assertFalse(isinstance(node.above, ast.FunctionDef), place)
                if isinstance(node, ast.FunctionDef):
                    self.assertEqual((node.args.defaults, node.args.vararg, node.args.kwarg), ([], None, None), place)
                    for default in node.args.kw_defaults:
                        self.assertIsInstance(ast.literal_eval(default), (tuple, bool), place)
                    self.assertIsNotNone(ast.get_docstring(node) if not isinstance(node.above, ast.ClassDef) else "", place)
                if isinstance(node, ast.Constant):
                    self.assertNotIsInstance(node.value, (float, complex), place)
                if isinstance(node, ast.Compare) and any(isinstance(op, (ast.Is, ast.IsNot)) for op in node.ops):
                    own = isinstance(node.left, ast.Name) and node.left.id == "self"
                    self.assertTrue(own or all(isinstance(each, ast.Constant) for each in node.comparators), place)
                if isinstance(node, ast.Raise) and node.exc is not None:
                    self.assertIsInstance(node.exc, ast.Call, place)
                if isinstance(node, ast.ExceptHandler):
                    self.assertTrue(isinstance(node.type, ast.Name) and node.type.id.startswith(("Invalid", "No", "Refused", "NetError")))

    def test_strings(self):
        for name, text, tree in parsed():
            prose = set()
            for node in ast.walk(tree):
                if isinstance(node, (ast.Module, ast.FunctionDef, ast.ClassDef)) and node.body:
                    if isinstance(node.body[0], ast.Expr):
                        prose.add(node.body[0].value)
            for node in ast.walk(tree):
                if isinstance(node, ast.Constant) and isinstance(node.value, str):
                    self.assertNotIn("%", node.value, name)
                    if node not in prose:
                        for word in re.findall(r"\w+", node.value):
                            self.assertNotIn(word, BARRED_WORDS, name)
            self.assertNotRegex(text, r"\\[^n\"'\\]", name)

    def test_names(self):
        for name, _, tree in parsed():
            imported = {alias.name for node in tree.body if isinstance(node, ast.ImportFrom) for alias in node.names}
            classes = {node.name for node in tree.body if isinstance(node, ast.ClassDef)}
            functions = {node.name for node in tree.body if isinstance(node, ast.FunctionDef)}
            level = {target.id for node in tree.body if isinstance(node, ast.Assign) for target in node.targets}
            self.assertEqual(len(imported & (classes | functions | level)), 0, name)
            for node in ast.walk(tree):
                for word in self.words_of(node):
                    self.assertNotIn(word, BARRED_NAMES | BARRED_WORDS, (name, word))
                    self.assertRegex(word, r"^(_?[A-Za-z][A-Za-z0-9_]*|_|__[a-z]+__)$")
                    if word.startswith("__"):
                        self.assertIn(word, DUNDERS, name)
                if isinstance(node, ast.FunctionDef):
                    # Stricter than L15: a local name does not hide a function of its file either.
                    shadowed = bound_names(node) & (imported | classes | functions | level | set(dir(builtins)))
                    self.assertEqual(shadowed, set(), (name, node.name))

    def words_of(self, node):
        if isinstance(node, ast.Name):
            return [node.id]
        if isinstance(node, ast.arg):
            return [node.arg]
        if isinstance(node, ast.Attribute):
            return [node.attr]
        if isinstance(node, (ast.FunctionDef, ast.ClassDef)):
            return [node.name]
        if isinstance(node, ast.keyword) and node.arg is not None:
            return [node.arg]
        return []

    def test_builtins_and_methods(self):
        own = own_names()
        for name, _, tree in parsed():
            known = {alias.name for node in tree.body if isinstance(node, ast.ImportFrom) for alias in node.names}
            for node in tree.body:
                if isinstance(node, (ast.FunctionDef, ast.ClassDef)):
                    known.add(node.name)
                if isinstance(node, ast.Assign):
                    known |= {target.id for target in node.targets}
            for node in ast.walk(tree):
                place = (name, getattr(node, "lineno", 0))
                if isinstance(node, ast.FunctionDef):
                    local = bound_names(node)
                    for part in ast.walk(node):
                        if isinstance(part, ast.Name) and part.id not in local | known:
                            self.assertIn(part.id, BUILTINS, place)
                if isinstance(node, ast.Attribute):
                    self.assertIn(node.attr, METHODS | own, place)
                if isinstance(node, ast.Call):
                    self.check_call(node, place)

    def check_call(self, node, place):
        keywords = {keyword.arg for keyword in node.keywords}
        if isinstance(node.func, ast.Name) and node.func.id in BUILTINS:
            self.assertLessEqual(keywords, KEYWORDS.get(node.func.id, set()), place)
            if node.func.id in FEEDERS:
                self.assertTrue(self.is_fed(node), place)
        if isinstance(node.func, ast.Attribute):
            self.assertEqual(keywords, set(), place)
            if node.func.attr in ("items", "keys", "values"):
                self.assertTrue(self.is_fed(node), place)
        self.assertFalse(any(isinstance(arg, ast.Starred) for arg in node.args), place)

    def is_fed(self, node):
        """Whether what a call gives is iterated at once."""
        above = node.above
        if isinstance(above, (ast.For, ast.comprehension)):
            return above.iter is node
        if isinstance(above, ast.Call) and isinstance(above.func, ast.Name):
            return above.func.id in {"list", "tuple", "dict", "sorted", "sum", "any", "all", "enumerate", "zip", "min", "max"}
        return False

    def test_exponents(self):
        for name, _, tree in parsed():
            for node in ast.walk(tree):
                if isinstance(node, ast.BinOp) and isinstance(node.op, ast.Pow):
                    self.assertIsInstance(node.right, ast.Constant, name)


if __name__ == "__main__":
    unittest.main()
