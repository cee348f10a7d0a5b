"""LANGUAGE.md, as far as a test can see it: sizes, characters, imports."""

import ast
import pathlib
import unittest

PACKAGE = pathlib.Path(__file__).resolve().parent.parent / "valuesmoved"
LIBRARY = {
    "heapq": ["heappush", "heappop", "heapify", "heapreplace", "heappushpop"],
    "math": ["gcd", "lcm", "isqrt", "comb", "perm", "factorial"],
    "itertools": ["product", "combinations", "permutations", "chain", "accumulate", "pairwise", "islice",
                  "zip_longest"],
    "collections": ["defaultdict", "deque"],
    "__future__": ["annotations"],
}
BUILTINS = """len range enumerate zip min max sum abs sorted reversed int str bool list tuple dict set isinstance ord
repr any all divmod map iter next super Exception ValueError TypeError KeyError IndexError LookupError
RuntimeError""".split()
METHODS = """append clear copy count endswith extend find get index insert isalnum isalpha isdigit islower isspace
isupper items join keys ljust lower lstrip partition pop remove replace reverse rfind rjust rpartition rsplit rstrip
setdefault split splitlines startswith strip update upper values zfill add discard""".split()
# L17: these stand nowhere, not as names and not in strings.
WORDS = """register mro elements open input law version_info type typing enum Enum Generic Protocol ABC namedtuple
dataclass overload contextmanager""".split()
MODULE_LEVEL = (ast.FunctionDef, ast.ClassDef, ast.ImportFrom, ast.Assign)
NOT_ALLOWED = (ast.AsyncFunctionDef, ast.AsyncFor, ast.AsyncWith, ast.Await, ast.Import, ast.Div)


def files():
    return sorted(PACKAGE.rglob("*.py"))


def tree_of(path):
    return ast.parse(path.read_text(encoding="ascii"))


def path_of(module):
    return PACKAGE.parent / (module.replace(".", "/") + ".py")


def imports_of(path):
    return [node for node in ast.walk(tree_of(path)) if isinstance(node, (ast.Import, ast.ImportFrom))]


def is_plain(node, properties):
    """Whether a value may stand behind a star of a call: a name, an attribute off one, a literal, or some of these."""
    if isinstance(node, ast.Attribute):
        return isinstance(node.value, ast.Name) and node.attr not in properties
    if isinstance(node, (ast.List, ast.Tuple)):
        return all(is_plain(part, properties) for part in node.elts)
    if isinstance(node, ast.Dict):
        return all(is_plain(part, properties) for part in [*node.keys, *node.values])
    return isinstance(node, (ast.Name, ast.Constant))


def is_star_call_allowed(call, properties):
    """Whether a call follows L7 ("Calls with stars"); each call without a star does."""
    parts = sorted([*call.args, *call.keywords], key=lambda part: (part.lineno, part.col_offset))
    stars = [at for at, part in enumerate(parts) if isinstance(part, ast.Starred)]
    doubled = [part.value for part in parts if isinstance(part, ast.keyword) and part.arg is None]
    named = [at for at, part in enumerate(parts) if isinstance(part, ast.keyword) and part.arg is not None]
    if doubled and (len(doubled) > 1 or named or not isinstance(doubled[0], (ast.Name, ast.Attribute))):
        return False
    if stars and named and named[0] < stars[-1]:
        return False
    watched = parts if doubled else parts[stars[0]:] if stars else []
    values = [part.value if isinstance(part, (ast.Starred, ast.keyword)) else part for part in watched]
    return all(is_plain(value, properties) for value in values)


def wrong_star_calls(tree, properties):
    """The lines of the calls with stars that L7 does not allow."""
    return [node.lineno for node in ast.walk(tree)
            if isinstance(node, ast.Call) and not is_star_call_allowed(node, properties)]


class LanguageTest(unittest.TestCase):
    def test_the_folder_holds_python_files_only(self):
        names = [path.name for path in PACKAGE.iterdir() if path.name != "__pycache__"]
        self.assertIn("__init__.py", names)
        for name in names:
            self.assertRegex(name, r"^[a-z_][a-z0-9_]*\.py$")

    def test_sizes_and_characters(self):
        for path in files():
            text = path.read_bytes().decode("ascii")
            with self.subTest(path=path.name):
                self.assertLessEqual(len(text.split("\n")), 399)
                self.assertLessEqual(max(len(line) for line in text.split("\n")), 120)
                self.assertTrue(all(sign == "\n" or " " <= sign <= "~" for sign in text))
                self.assertTrue(text.endswith("\n"))

    def test_functions(self):
        for path in files():
            for node in ast.walk(tree_of(path)):
                if isinstance(node, (ast.FunctionDef, ast.Lambda)):
                    with self.subTest(path=path.name, line=node.lineno):
                        self.assertLessEqual(node.end_lineno - node.lineno + 1, 40)

    def test_imports(self):
        for path in files():
            for node in imports_of(path):
                with self.subTest(path=path.name, line=node.lineno):
                    self.assertIsInstance(node, ast.ImportFrom)
                    self.assertEqual(node.level, 0)
                    self.check_import(node)

    def check_import(self, node):
        names = [alias.name for alias in node.names]
        if node.module in LIBRARY:
            self.assertEqual([name for name in names if name not in LIBRARY[node.module]], [])
            self.assertEqual([alias.asname for alias in node.names if alias.asname], [])
            return
        self.assertTrue(node.module.startswith("valuesmoved."))
        body = tree_of(path_of(node.module)).body
        defined = [part.name for part in body if isinstance(part, (ast.FunctionDef, ast.ClassDef))]
        defined += [target.id for part in body if isinstance(part, ast.Assign) for target in part.targets]
        self.assertEqual([name for name in names if name not in defined], [])

    def test_no_two_files_import_from_each_other(self):
        above = {path: [path_of(node.module) for node in imports_of(path) if node.module not in LIBRARY]
                 for path in files()}
        while above:
            leaves = [path for path in above if not any(other in above for other in above[path])]
            self.assertTrue(leaves, "files import from each other")
            above = {path: above[path] for path in above if path not in leaves}

    def test_module_level(self):
        for path in files():
            body = tree_of(path).body
            self.assertIsNotNone(ast.get_docstring(tree_of(path)), path.name)
            for node in body[1:]:
                with self.subTest(path=path.name, line=node.lineno):
                    self.assertIsInstance(node, MODULE_LEVEL)

    def test_decorators(self):
        for path in files():
            for node in ast.walk(tree_of(path)):
                for decorator in getattr(node, "decorator_list", []):
                    self.assertEqual(ast.unparse(decorator), "property", path.name)

    def test_what_is_asked_for_its_class_is_compared_at_once(self):
        for path in files():
            tree = tree_of(path)
            asked = [ast.unparse(node) for node in ast.walk(tree)
                     if isinstance(node, ast.Call) and getattr(node.func, "id", "") == "type"]
            compared = [ast.unparse(side) for node in ast.walk(tree) if isinstance(node, ast.Compare)
                        and isinstance(node.ops[0], ast.Is) for side in [node.left, *node.comparators]]
            self.assertEqual([one for one in asked if one not in compared], [], path.name)

    def test_generators_are_iterated_at_once(self):
        yields = [node.name for path in files() for node in ast.walk(tree_of(path)) if isinstance(node, ast.FunctionDef)
                  and any(isinstance(part, (ast.Yield, ast.YieldFrom)) for part in ast.walk(node))]
        for path in files():
            nodes = list(ast.walk(tree_of(path)))
            calls = [node for node in nodes if isinstance(node, ast.Call) and getattr(node.func, "id", "") in yields]
            iterated = [node.iter for node in nodes if isinstance(node, (ast.For, ast.comprehension))]
            iterated += [node.value for node in nodes if isinstance(node, ast.YieldFrom)]
            self.assertEqual([node.lineno for node in calls if node not in iterated], [], path.name)
            self.assertEqual([node.lineno for node in nodes if isinstance(node, ast.GeneratorExp)], [], path.name)

    def test_behind_stars_of_calls_stand_plain_values(self):
        properties = [node.name for path in files() for node in ast.walk(tree_of(path))
                      if isinstance(node, ast.FunctionDef) and node.decorator_list]
        for path in files():
            self.assertEqual(wrong_star_calls(tree_of(path), properties), [], path.name)

    def test_calls_behind_stars_are_found(self):
        for text in ["f(*g(x))", "f(k, *g(x))", "f(*xs, *g(x))", "f(*xs, g(x))", "f(*xs, n=g(x))", "f(*[g(x)])",
                     "f(*(1, [g(x)]))", "f(*{1: g(x)})", "f(*xs.copy())", "f(*g(x).rows)", "f(**g(x))", "f(g(x), **d)",
                     "f(*g(x), **d)", "f(*g(x) or xs)", "h(f(*g(x)))", "[f(*g(x)) for x in xs]"]:
            with self.subTest(text=text):
                self.assertEqual(wrong_star_calls(ast.parse(text), []), [1])

    def test_what_else_is_not_behind_stars_is_found(self):
        for text in ["f(*xs[1:])", "f(*xs + ys)", "f(*[x for x in xs])", "f(*box.rows)", "f(*box.inner.many)",
                     "f(n=1, *xs)", "f(n=1, **d)", "f(**d, **e)", "f(**{1: 2})"]:
            with self.subTest(text=text):
                self.assertEqual(wrong_star_calls(ast.parse(text), ["rows"]), [1])

    def test_stars_that_are_allowed(self):
        for text in ["f(*xs)", "f(k, *xs)", "f(g(x), *xs)", "f(*xs, n, sep=n)", "f(**d)", "f(*box.many)",
                     "f(*[1, (n, {1: n})])", "f(n, *xs, **box.table)", "f(g(x), n=g(x))", "f([*g(x), 1])",
                     "[*g(x), *h(x)]"]:
            with self.subTest(text=text):
                self.assertEqual(wrong_star_calls(ast.parse(text), ["rows"]), [])

    def test_names_that_are_called(self):
        nodes = [node for path in files() for node in ast.walk(tree_of(path))]
        methods = [node.name for node in nodes if isinstance(node, ast.FunctionDef)]
        for path in files():
            tree = tree_of(path)
            names = BUILTINS + ["type"] + [alias.name for node in imports_of(path) for alias in node.names]
            names += [node.name for node in ast.walk(tree) if isinstance(node, (ast.FunctionDef, ast.ClassDef))]
            for node in [node for node in ast.walk(tree) if isinstance(node, ast.Call)]:
                with self.subTest(path=path.name, line=node.lineno):
                    if isinstance(node.func, ast.Name):
                        self.assertIn(node.func.id, names)
                    else:
                        self.assertIn(node.func.attr, METHODS + methods + ["__init__"])

    def test_no_name_has_another_meaning(self):
        for path in files():
            tree = tree_of(path)
            taken = BUILTINS + WORDS + [alias.name for node in imports_of(path) for alias in node.names]
            taken += [node.name for node in tree.body if isinstance(node, ast.ClassDef)]
            for node in ast.walk(tree):
                name = node.arg if isinstance(node, ast.arg) else getattr(node, "id", None)
                if isinstance(node, ast.arg) or isinstance(getattr(node, "ctx", None), ast.Store):
                    with self.subTest(path=path.name, line=node.lineno):
                        self.assertNotIn(name, taken)

    def test_words_that_are_not_used(self):
        for path in files():
            tree = tree_of(path)
            docs = [ast.get_docstring(node, clean=False) for node in ast.walk(tree)
                    if isinstance(node, (ast.Module, ast.FunctionDef, ast.ClassDef))]
            for node in ast.walk(tree):
                if isinstance(node, ast.Constant) and isinstance(node.value, str) and node.value not in docs:
                    self.assertFalse(set(node.value.split()) & set(WORDS), (path.name, node.lineno))
                    self.assertNotIn("%", node.value)
                if isinstance(node, ast.Attribute):
                    self.assertNotIn(node.attr, WORDS)

    def test_statements(self):
        for path in files():
            for node in ast.walk(tree_of(path)):
                self.assertNotIsInstance(node, NOT_ALLOWED, path.name)
                if isinstance(node, ast.Constant):
                    self.assertNotIsInstance(node.value, float, path.name)


if __name__ == "__main__":
    unittest.main()
