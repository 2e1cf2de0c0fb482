"""The mechanical ones of the rules in LANGUAGE.md, held against each file of the package."""

import ast
import builtins
import io
import os
import re
import tokenize
import unittest

import asofhall

FOLDER = os.path.dirname(os.path.abspath(asofhall.__file__))
LIBRARY = {
    "heapq": {"heappush", "heappop", "heapify", "heapreplace", "heappushpop"},
    "math": {"gcd", "lcm", "isqrt", "comb", "perm", "factorial"},
    "itertools": {"product", "combinations", "permutations"},
}
BUILTINS = set(
    "len range enumerate zip min max sum abs sorted reversed int str bool list tuple dict set isinstance ord repr "
    "any all divmod iter next map super property staticmethod classmethod Exception ValueError TypeError KeyError "
    "IndexError LookupError ZeroDivisionError ArithmeticError OverflowError RuntimeError NotImplementedError "
    "AttributeError StopIteration NotImplemented".split())
METHODS = set(
    "append clear copy count endswith extend find get index insert isalnum isalpha isdigit islower isspace isupper "
    "items join keys ljust lower lstrip partition pop remove replace reverse rfind rjust rpartition rsplit rstrip "
    "setdefault split splitlines startswith strip update upper values zfill bit_length title capitalize swapcase "
    "casefold center expandtabs removeprefix removesuffix rindex isascii isdecimal isnumeric istitle isidentifier "
    "isprintable add discard sort".split())
DUNDERS = set(
    "__init__ __eq__ __repr__ __str__ __len__ __enter__ __exit__ __call__ __iter__ __lt__ __le__ __gt__ __ge__ __ne__ "
    "__add__ __sub__ __mul__ __floordiv__ __mod__ __and__ __or__ __xor__ __neg__ __bool__ __contains__".split())
UNUSED = set("register mro elements open input law version_info with_traceback add_note".split())
UNBOUND = set(
    "attrgetter breakpoint builtins compile copyright credits delattr dir eval exec exit gc getattr globals hasattr "
    "help id importlib license locals methodcaller os quit setattr super type vars sys __name__".split())
WORDS = set(
    "type typing typing_extensions enum Enum IntEnum StrEnum Flag IntFlag Generic Protocol ABC ABCMeta namedtuple "
    "NamedTuple TypedDict TYPE_CHECKING abstractmethod".split())
STATEMENTS = (
    ast.Assign, ast.AugAssign, ast.If, ast.While, ast.For, ast.Return, ast.Break, ast.Continue, ast.Pass, ast.Raise,
    ast.Assert, ast.Delete, ast.Nonlocal, ast.Try, ast.Expr, ast.FunctionDef, ast.ClassDef, ast.ImportFrom)
ATTRIBUTES_BARRED = set(
    "items keys values pop update append clear extend insert remove reverse setdefault sort args encode decode hex "
    "fromhex format format_map mro".split())


def files():
    return sorted(name for name in os.listdir(FOLDER) if name != "__pycache__")


def text_of(name):
    with open(os.path.join(FOLDER, name), encoding="utf-8") as held:
        return held.read()


def bound_names(tree):
    """All names that are bound somewhere in the file as variables, functions, classes or parameters."""
    found = []
    for node in ast.walk(tree):
        if isinstance(node, ast.Name) and not isinstance(node.ctx, ast.Load):
            found.append(node.id)
        elif isinstance(node, ast.arg):
            found.append(node.arg)
        elif isinstance(node, ast.ExceptHandler) and node.name:
            found.append(node.name)
    return found


def for_each_file(check):
    """The test that holds the check against each file."""
    def test(self):
        for name in files():
            with self.subTest(file=name):
                check(self, text_of(name), ast.parse(text_of(name)))

    return test


class Language(unittest.TestCase):
    def test_l1_l14_the_folder(self):
        for name in files():
            self.assertRegex(name, r"^([a-z][a-z0-9_]*|__init__)\.py$")
            self.assertTrue(name == "__init__.py" or not hasattr(builtins, name[:-3]))
        self.assertLessEqual(len(files()), 100)

    @for_each_file
    def test_l10_l14_sizes_and_characters(self, text, tree):
        self.assertRegex(text, r"^[ -~\n]*$")
        self.assertLessEqual(len(text.splitlines()), 399)
        self.assertLessEqual(max(len(line) for line in text.splitlines()), 120)
        for node in ast.walk(tree):
            if isinstance(node, ast.FunctionDef):
                self.assertLessEqual(node.end_lineno - node.lineno + 1, 40, node.name)

    def test_l2_l16_imports(self):
        reads = {}
        for name in files():
            tree = ast.parse(text_of(name))
            reads[name[:-3]] = []
            for node in ast.walk(tree):
                self.assertNotIsInstance(node, ast.Import)
                if not isinstance(node, ast.ImportFrom):
                    continue
                self.assertIn(node, tree.body)
                self.assertEqual(node.level, 0)
                names = [one.name for one in node.names]
                self.assertTrue(all(one.asname is None for one in node.names))
                if node.module in LIBRARY:
                    self.assertLessEqual(set(names), LIBRARY[node.module])
                    continue
                package, _, module = node.module.partition(".")
                self.assertEqual(package, "asofhall")
                reads[name[:-3]].append(module)
                made = [one.name for one in ast.parse(text_of(module + ".py")).body if hasattr(one, "name")]
                made += bound_names(ast.parse(text_of(module + ".py")))
                self.assertLessEqual(set(names), set(made))
        while reads:
            free = [name for name in reads if not any(one in reads for one in reads[name])]
            self.assertTrue(free, f"import from each other: {sorted(reads)}")
            for name in free:
                del reads[name]

    @for_each_file
    def test_l2_no_import_is_left_unused(self, text, tree):
        used = {node.id for node in ast.walk(tree) if isinstance(node, ast.Name)}
        for node in tree.body:
            if isinstance(node, ast.ImportFrom):
                self.assertLessEqual({one.name for one in node.names}, used)

    @for_each_file
    def test_l3_module_level(self, text, tree):
        names = []
        for at, node in enumerate(tree.body):
            if isinstance(node, ast.Assign):
                self.assertEqual([type(one) for one in node.targets], [ast.Name])
                names.append(node.targets[0].id)
                self.assertFalse([one for one in ast.walk(node.value) if isinstance(one, (ast.Call, ast.ListComp))])
            elif isinstance(node, ast.Expr):
                self.assertEqual(at, 0)
                self.assertIsInstance(node.value, ast.Constant)
            else:
                self.assertIsInstance(node, (ast.ImportFrom, ast.FunctionDef, ast.ClassDef))
                names += [one.name for one in getattr(node, "names", [node])]
        self.assertEqual(len(names), len(set(names)))

    @for_each_file
    def test_l4_l6_statements(self, text, tree):
        for node in ast.walk(tree):
            if isinstance(node, ast.stmt):
                self.assertIsInstance(node, STATEMENTS)
            if isinstance(node, ast.FunctionDef):
                self.assertIn([ast.unparse(one) for one in node.decorator_list], ([], ["property"]))
                self.assertIsNone(node.returns)
            if isinstance(node, ast.ExceptHandler):
                self.assertIsNotNone(node.type)
            if isinstance(node, ast.Raise):
                self.assertTrue(node.exc is None or isinstance(node.exc, ast.Call))

    @for_each_file
    def test_l5_classes(self, text, tree):
        for node in ast.walk(tree):
            if isinstance(node, ast.ClassDef):
                self.assertIn(node, tree.body)
                self.assertEqual(node.decorator_list + node.keywords, [])
                names = [one.name for one in node.body if isinstance(one, ast.FunctionDef)]
                self.assertEqual(len(names), len(set(names)))
                for name in names:
                    self.assertTrue(not name.startswith("__") or name in DUNDERS, name)

    def test_l5_properties(self):
        nodes = [node for name in files() for node in ast.walk(ast.parse(text_of(name)))]
        stored = {node.attr for node in nodes if isinstance(node, ast.Attribute) and isinstance(node.ctx, ast.Store)}
        functions = [node for node in nodes if isinstance(node, ast.FunctionDef)]
        properties = {node.name for node in functions if node.decorator_list}
        self.assertFalse(properties & stored)
        self.assertFalse(properties & {node.name for node in functions if not node.decorator_list})
        for node in functions:
            if node.decorator_list:
                self.assertRegex(ast.unparse(node.body[-1]), r"^return list\(self\.[a-z_]+\)$")
                self.assertEqual([one.arg for one in node.args.args], ["self"])

    @for_each_file
    def test_l6_finally(self, text, tree):
        for node in ast.walk(tree):
            for one in getattr(node, "finalbody", []):
                self.assertRegex(ast.unparse(one), r"^self\.\w+ = \w+$")

    @for_each_file
    def test_l7_stars_in_calls(self, text, tree):
        for node in ast.walk(tree):
            if isinstance(node, ast.Call):
                for one in node.args:
                    if isinstance(one, ast.Starred):
                        self.assertIsInstance(one.value, (ast.Name, ast.Attribute, ast.List, ast.Tuple))

    @for_each_file
    def test_l7_expressions(self, text, tree):
        for node in ast.walk(tree):
            self.assertNotIsInstance(node, (ast.GeneratorExp, ast.Await, ast.Yield, ast.YieldFrom, ast.Div, ast.MatMult))
            if isinstance(node, ast.Constant):
                self.assertNotIsInstance(node.value, (float, complex, bytes, type(...)))

    @for_each_file
    def test_l8_builtins(self, text, tree):
        for node in ast.walk(tree):
            if isinstance(node, ast.Name) and hasattr(builtins, node.id):
                self.assertIn(node.id, BUILTINS)
                self.assertIsInstance(node.ctx, ast.Load)

    @for_each_file
    def test_l12_l15_l17_names(self, text, tree):
        outer = [node.name for node in tree.body if isinstance(node, ast.ClassDef)]
        outer += [one.name for node in tree.body if isinstance(node, ast.ImportFrom) for one in node.names]
        functions = [node.name for node in ast.walk(tree) if isinstance(node, ast.FunctionDef)]
        for name in bound_names(tree):
            self.assertNotIn(name, outer)
            self.assertFalse(hasattr(builtins, name), name)
        for name in [*bound_names(tree), *functions, *outer]:
            self.assertNotIn(name, UNUSED | UNBOUND)
            self.assertTrue(name in DUNDERS or re.fullmatch(r"_?[A-Za-z][A-Za-z0-9_]*|_", name), name)
        for node in ast.walk(tree):
            if isinstance(node, ast.Name) and node.id == "_":
                self.assertIsInstance(node.ctx, ast.Store)

    @for_each_file
    def test_l17_l27_words_and_strings(self, text, tree):
        docstrings = []
        for node in ast.walk(tree):
            if isinstance(node, (ast.Module, ast.ClassDef, ast.FunctionDef)) and ast.get_docstring(node):
                docstrings.append(node.body[0].value.lineno)
        for token in tokenize.generate_tokens(io.StringIO(text).readline):
            if token.type == tokenize.STRING:
                self.assertNotIn("%", token.string)
                self.assertFalse(re.search(r"\\[^nt\\'\"]", token.string))
            if token.type == tokenize.COMMENT or token.start[0] in docstrings:
                continue
            self.assertFalse(set(re.findall(r"\w+", token.string)) & WORDS, token.string)

    @for_each_file
    def test_l18_l26_methods_and_attributes(self, text, tree):
        for node in ast.walk(tree):
            if not isinstance(node, ast.ClassDef):
                continue
            methods = {one.name for one in node.body if isinstance(one, ast.FunctionDef)}
            stored = {one.attr for one in ast.walk(node) if isinstance(one, ast.Attribute)
                      and isinstance(one.ctx, ast.Store)}
            self.assertFalse(methods & stored)
            self.assertFalse(stored & ATTRIBUTES_BARRED)

    @for_each_file
    def test_l20_is(self, text, tree):
        for node in ast.walk(tree):
            if isinstance(node, ast.Compare):
                for sign, right in zip(node.ops, node.comparators):
                    if isinstance(sign, (ast.Is, ast.IsNot)):
                        self.assertTrue(isinstance(right, ast.Constant) and right.value in (None, True, False))

    @for_each_file
    def test_l22_l25_calls(self, text, tree):
        own = {node.name for name in files() for node in ast.walk(ast.parse(text_of(name)))
               if isinstance(node, ast.FunctionDef)}
        kinds = (str, list, dict, set, tuple, int, bytes)
        for node in ast.walk(tree):
            if isinstance(node, ast.Call) and isinstance(node.func, ast.Attribute):
                name = node.func.attr
                if any(hasattr(kind, name) for kind in kinds) and name != "__init__":
                    self.assertIn(name, METHODS)
                    self.assertNotEqual(name, "sort")
                    self.assertEqual(node.keywords, [])
                elif name != "__init__":
                    self.assertIn(name, own)

    @for_each_file
    def test_l24_sets(self, text, tree):
        inner = [part for node in ast.walk(tree) if isinstance(node, ast.Call) and isinstance(node.func, ast.Name)
                 and node.func.id in ("sorted", "len") for part in node.args]
        for node in ast.walk(tree):
            called = isinstance(node, ast.Call) and isinstance(node.func, ast.Name) and node.func.id == "set"
            if called or isinstance(node, (ast.Set, ast.SetComp)):
                self.assertIn(node, inner)


if __name__ == "__main__":
    unittest.main()
