"""The form of the package: those rules of shared/LANGUAGE.md that can be looked up in the syntax."""

import ast
import builtins
import os
import re
import unittest

FOLDER = os.path.join(os.path.dirname(os.path.dirname(os.path.abspath(__file__))), "onlyhigher")

LIBRARY = {
    "heapq": {"heappush", "heappop", "heapify", "heapreplace", "heappushpop"},
    "math": {"gcd", "lcm", "isqrt", "comb", "perm", "factorial"},
    "itertools": {
        "product", "combinations", "permutations", "chain", "accumulate", "pairwise", "islice", "zip_longest",
    },
    "collections": {"defaultdict"},
}
BUILTINS = set(
    "len range enumerate zip min max sum abs sorted reversed int str bool list tuple dict set isinstance ord repr "
    "any all divmod pow iter next Exception ValueError TypeError KeyError IndexError LookupError ZeroDivisionError "
    "ArithmeticError OverflowError RuntimeError NotImplementedError NotImplemented map super property staticmethod "
    "classmethod".split())
METHODS = set(
    "append clear copy count endswith extend find get index insert isalnum isalpha isdigit islower isspace isupper "
    "items join keys ljust lower lstrip partition pop remove replace reverse rfind rjust rpartition rsplit rstrip "
    "setdefault split splitlines startswith strip update upper values zfill bit_length add discard sort".split())
BARRED_NAMES = set(
    "register mro elements open input law version_info with_traceback add_note attrgetter breakpoint builtins "
    "compile copyright credits delattr dir eval exec exit gc globals help id importlib license locals methodcaller "
    "os quit type vars sys".split())
BARRED_WORDS = re.compile(
    r"\b(type|typing|typing_extensions|enum|Enum|IntEnum|StrEnum|Flag|IntFlag|Generic|Protocol|ABC|ABCMeta|namedtuple"
    r"|NamedTuple|TypedDict|TYPE_CHECKING|abstractmethod)\b|dataclass|overload|contextmanager")
BARRED_STARTS = re.compile(
    r"_(pe_|dcw_|enum_|cm_|twin_re_|lay_|law_|stub_|sre|(cold|tuplegetter|outside|record|written_out|member_names)[0-9_]*\Z)")
ITERATING = set("list tuple dict sorted sum any all min max enumerate zip reversed".split())
BARRED_ATTRIBUTES = set(
    "items keys values pop update append clear extend insert remove reverse setdefault sort args encode decode hex "
    "fromhex format format_map mro register elements open input as_integer_ratio bit_count conjugate from_bytes "
    "is_integer to_bytes".split())
BARRED_NODES = (
    ast.Global, ast.AsyncFunctionDef, ast.Await, ast.AsyncFor, ast.AsyncWith, ast.Import, ast.Div, ast.AnnAssign,
    ast.YieldFrom,
)


def package_files():
    return sorted(name for name in os.listdir(FOLDER) if name != "__pycache__")


def text_of(name):
    with open(os.path.join(FOLDER, name), encoding="utf-8", newline="") as file:
        return file.read()


def without_comments(tree):
    """The code without docstrings and comments."""
    for node in ast.walk(tree):
        if isinstance(node, (ast.Module, ast.FunctionDef, ast.ClassDef)) and ast.get_docstring(node) is not None:
            node.body = node.body[1:] or [ast.Pass()]
    return ast.unparse(tree)


def bound_names(tree):
    for node in ast.walk(tree):
        if isinstance(node, ast.arg):
            yield node.arg
        elif isinstance(node, ast.Name) and isinstance(node.ctx, ast.Store):
            yield node.id
        elif isinstance(node, (ast.FunctionDef, ast.ClassDef)):
            yield node.name
        elif isinstance(node, ast.ExceptHandler) and node.name is not None:
            yield node.name


def imported_names(tree):
    return [alias.name for node in tree.body if isinstance(node, ast.ImportFrom) for alias in node.names]


class Form(unittest.TestCase):
    def each_file(self):
        for name in package_files():
            with self.subTest(name):
                yield name, text_of(name), ast.parse(text_of(name))

    def test_files_and_sizes(self):
        self.assertLessEqual(len(package_files()), 100)
        for name, text, tree in self.each_file():
            self.assertRegex(name, r"\A[a-z_][a-z0-9_]*\.py\Z")
            self.assertTrue(all(sign == "\n" or " " <= sign <= "~" for sign in text))
            lines = text.splitlines()
            self.assertLessEqual(len(lines), 399)
            self.assertLessEqual(max([0] + [len(line) for line in lines]), 120)
            for node in ast.walk(tree):
                if isinstance(node, ast.FunctionDef):
                    first = min([node.lineno] + [mark.lineno for mark in node.decorator_list])
                    self.assertLessEqual(node.end_lineno - first + 1, 40, node.name)

    def test_decorators(self):
        for name, _, tree in self.each_file():
            methods = [method for kind in classes_in(tree) for method in methods_of(kind)]
            for node in ast.walk(tree):
                if isinstance(node, (ast.FunctionDef, ast.ClassDef)):
                    marks = [ast.unparse(mark) for mark in node.decorator_list]
                    self.assertIn(marks, [[], ["property"]] if node in methods else [[]])

    def test_imports(self):
        links = {}
        for name, _, tree in self.each_file():
            links[name] = []
            for node in ast.walk(tree):
                if not isinstance(node, ast.ImportFrom):
                    continue
                self.assertIn(node, tree.body)
                self.assertEqual(node.level, 0)
                for alias in node.names:
                    self.assertIsNone(alias.asname)
                    if node.module in LIBRARY:
                        self.assertIn(alias.name, LIBRARY[node.module])
                        continue
                    package, file = node.module.split(".")
                    self.assertEqual(package, "onlyhigher")
                    links[name].append(file + ".py")
                    self.assertIn(alias.name, own_names(ast.parse(text_of(file + ".py"))))
        seen = []

        def visit(name, way):
            self.assertNotIn(name, way)
            if name not in seen:
                for file in links[name]:
                    visit(file, way + [name])
                seen.append(name)

        for name in links:
            visit(name, [])

    def test_all_imports_are_used(self):
        for name, _, tree in self.each_file():
            used = {node.id for node in ast.walk(tree) if isinstance(node, ast.Name)}
            for word in imported_names(tree):
                self.assertIn(word, used)

    def test_module_level(self):
        for name, _, tree in self.each_file():
            for at, node in enumerate(tree.body):
                docstring = at == 0 and isinstance(node, ast.Expr) and isinstance(node.value, ast.Constant)
                plain = isinstance(node, ast.Assign) and len(node.targets) == 1
                self.assertTrue(
                    docstring or plain or isinstance(node, (ast.ImportFrom, ast.FunctionDef, ast.ClassDef)), node.lineno)
                if plain:
                    above = {other.name for other in tree.body[:at] if isinstance(other, ast.FunctionDef)}
                    for word in ast.walk(node.value):
                        if isinstance(word, ast.Name):
                            self.assertIn(word.id, above)
                        else:
                            self.assertIsInstance(word, (ast.Constant, ast.Tuple, ast.List, ast.Dict, ast.Load))

    def test_statements_and_expressions(self):
        for name, _, tree in self.each_file():
            for node in ast.walk(tree):
                self.assertNotIsInstance(node, BARRED_NODES)
                if isinstance(node, ast.Constant):
                    self.assertIsInstance(node.value, (int, str, type(None)))
                    self.assertNotIn("%", str(node.value))
                if isinstance(node, ast.Compare):
                    for sign, behind in zip(node.ops, node.comparators):
                        if isinstance(sign, (ast.Is, ast.IsNot)):
                            self.assertIsInstance(behind, ast.Constant)
                if isinstance(node, ast.ExceptHandler):
                    self.assertIn(ast.unparse(node.type), own_names(ast.parse(text_of("errors.py"))))
                if isinstance(node, ast.Raise) and node.exc is not None:
                    self.assertIn(ast.unparse(node.exc.func), own_names(ast.parse(text_of("errors.py"))))
                if isinstance(node, ast.Pow):
                    self.fail("an exponent")

    def test_names(self):
        known = set(dir(builtins))
        for name, _, tree in self.each_file():
            imported = imported_names(tree)
            top = own_names(tree)
            self.assertEqual(len(top + imported), len(set(top + imported)))
            for word in bound_names(tree):
                self.assertNotIn(word, known)
                self.assertNotIn(word, BARRED_NAMES)
                self.assertNotIn(word, imported)
                self.assertRegex(word, r"\A(_?[A-Za-z][A-Za-z0-9_]*|__(init|len|eq|iter|getitem)__|_)\Z")

    def test_builtins_and_methods(self):
        own = {method.name for _, _, tree in self.each_file() for kind in classes_in(tree) for method in methods_of(kind)}
        for name, _, tree in self.each_file():
            bound = set(bound_names(tree)) | set(imported_names(tree))
            for node in ast.walk(tree):
                if isinstance(node, ast.Name) and node.id not in bound:
                    self.assertIn(node.id, BUILTINS)
                if isinstance(node, ast.Call) and isinstance(node.func, ast.Attribute):
                    self.assertIn(node.func.attr, METHODS | own)
                    # A class of the package compares, so lists are not sorted in place.
                    self.assertNotEqual(node.func.attr, "sort")
                if isinstance(node, ast.Call) and isinstance(node.func, ast.Name) and node.func.id == "reversed":
                    self.assertIn(ast.unparse(node.args[0].func), ("range", "list", "tuple", "sorted"))

    def test_classes(self):
        given, taken = set(), set()
        for name, _, tree in self.each_file():
            for kind in classes_in(tree):
                methods = [method.name for method in methods_of(kind)]
                stored = {node.attr for node in ast.walk(kind) if is_own_attribute(node, ast.Store)}
                self.assertEqual(len(methods), len(set(methods)))
                self.assertFalse(stored & set(methods))
                self.assertFalse(stored & BARRED_ATTRIBUTES)
                self.assertNotIn("keys", stored | set(methods))
                for word in stored | set(methods):
                    self.assertIsNone(BARRED_STARTS.match(word), word)
                self.assertEqual("__getitem__" in methods, "__iter__" in methods)
                given |= stored | set(methods)
                taken |= {node.attr for node in ast.walk(kind) if is_own_attribute(node, ast.Load)}
                for method in methods_of(kind):
                    self.check_method(method)
        self.assertLessEqual(taken, given | METHODS)

    def check_method(self, method):
        rows = [node for node in method.body if not (isinstance(node, ast.Expr) and isinstance(node.value, ast.Constant))]
        self.assertEqual(method.args.args[0].arg, "self")
        if method.name == "__iter__":
            self.assertEqual(len(rows), 1)
            self.assertRegex(ast.unparse(rows[0]), r"\Areturn iter\(self\.[a-z_]+\)\Z")
        elif method.name == "__len__":
            self.assertRegex(ast.unparse(rows[-1]), r"\Areturn len\(")
        elif method.name == "__init__":
            self.assertFalse([node for node in ast.walk(method) if isinstance(node, ast.Return)])
        if method.name in ("__len__", "__eq__", "__getitem__", "__iter__") or method.decorator_list:
            self.assertEqual(len(rows), 1)
            self.assertIsInstance(rows[0], ast.Return)

    def test_generator_expressions_and_sets(self):
        for name, _, tree in self.each_file():
            for node in ast.walk(tree):
                self.assertNotIsInstance(node, (ast.GeneratorExp, ast.Yield))
            for use in set_uses(tree):
                self.assertTrue(use)

    def test_iterated_at_once(self):
        for name, _, tree in self.each_file():
            right = []
            for node in ast.walk(tree):
                if isinstance(node, (ast.For, ast.comprehension)):
                    right.append(node.iter)
                elif isinstance(node, ast.Call) and isinstance(node.func, ast.Name) and node.func.id in ITERATING:
                    right.extend(node.args[:1] if node.func.id != "zip" else node.args)
            for node in ast.walk(tree):
                if isinstance(node, ast.Call) and (
                        isinstance(node.func, ast.Name) and node.func.id in ("range", "zip", "enumerate", "reversed")
                        or isinstance(node.func, ast.Attribute) and node.func.attr in ("items", "keys", "values")):
                    self.assertTrue(any(node is found for found in right), node.lineno)

    def test_no_products(self):
        # A bench is iterated over and has a length.
        for name, _, tree in self.each_file():
            self.assertFalse({"product", "combinations", "permutations"} & set(imported_names(tree)))

    def test_words(self):
        for name, _, tree in self.each_file():
            self.assertIsNone(BARRED_WORDS.search(without_comments(tree)))


def classes_in(tree):
    return [node for node in tree.body if isinstance(node, ast.ClassDef)]


def methods_of(kind):
    return [node for node in kind.body if isinstance(node, ast.FunctionDef)]


def is_own_attribute(node, use):
    return isinstance(node, ast.Attribute) and isinstance(node.value, ast.Name) and node.value.id == "self" and isinstance(
        node.ctx, use)


def own_names(tree):
    found = [node.name for node in tree.body if isinstance(node, (ast.FunctionDef, ast.ClassDef))]
    return found + [node.targets[0].id for node in tree.body if isinstance(node, ast.Assign)]


def set_uses(tree):
    """For each set that is made: whether it stands directly in len or sorted, without keywords."""
    right = []
    for node in ast.walk(tree):
        if isinstance(node, ast.Call) and isinstance(node.func, ast.Name) and node.func.id in ("len", "sorted"):
            if not node.keywords:
                right.extend(node.args)
    for node in ast.walk(tree):
        made = isinstance(node, ast.Call) and isinstance(node.func, ast.Name) and node.func.id == "set"
        if made or isinstance(node, (ast.Set, ast.SetComp)):
            yield any(node is found for found in right)


if __name__ == "__main__":
    unittest.main()
