"""Checks the files of the package against those rules of LANGUAGE.md that a parser can see."""

import ast
import builtins
import os
import re
import unittest

ROOT = os.path.dirname(os.path.dirname(os.path.abspath(__file__)))
PACKAGE = os.path.join(ROOT, "strikecore")

ALLOWED_BUILTINS = set(
    "len range enumerate zip min max sum abs sorted reversed int str bool list tuple dict set isinstance ord repr "
    "any all divmod pow getattr hasattr setattr iter next map Exception ValueError TypeError KeyError IndexError "
    "LookupError ZeroDivisionError ArithmeticError OverflowError RuntimeError NotImplementedError "
    "NotImplemented super property staticmethod classmethod".split()
)

ALLOWED_METHODS = set(
    "append clear copy count endswith extend find get index insert isalnum isalpha isdigit islower isspace isupper "
    "items join keys ljust lower lstrip partition pop remove replace reverse rfind rjust rpartition rsplit rstrip "
    "setdefault split splitlines startswith strip update upper values zfill bit_length add discard sort".split()
)

# What may be imported besides the package's own files, as far as the package needs it.
LIBRARY = {"itertools": {"permutations"}}

# These words stand nowhere, the others may stand in strings.
BARRED_WORDS = re.compile(
    r"\b(type|typing|typing_extensions|enum|Enum|IntEnum|StrEnum|Flag|IntFlag|Generic|Protocol|ABC|ABCMeta|namedtuple|"
    r"NamedTuple|TypedDict|TYPE_CHECKING|abstractmethod)\b"
)
BARRED_NAMES = re.compile(
    r"\b(register|mro|elements|open|input|law|version_info|compile|dir|eval|exec|exit|globals|help|id|locals|vars|async|"
    r"global|chr|float)\b"
)

FORBIDDEN_NODES = (
    ast.AsyncFunctionDef,
    ast.Await,
    ast.Div,
    ast.Global,
    ast.Import,
    ast.Yield,
    ast.YieldFrom,
)


def package_files():
    return sorted(os.path.join(PACKAGE, name) for name in os.listdir(PACKAGE) if name.endswith(".py"))


def text_of(path):
    with open(path, encoding="utf-8", newline="") as handle:
        return handle.read()


def code_without_docstrings(tree):
    """The code again, without comments and docstrings."""
    for node in ast.walk(tree):
        if isinstance(node, (ast.Module, ast.FunctionDef, ast.ClassDef)) and ast.get_docstring(node) is not None:
            node.body = node.body[1:] or [ast.Pass()]
    return ast.unparse(tree)


def code_without_strings(tree):
    """The code again, without comments, its strings being empty."""
    for node in ast.walk(tree):
        if isinstance(node, ast.Constant) and isinstance(node.value, str):
            node.value = ""
    return ast.unparse(tree)


def each_file(check):
    """Makes a test that runs the check for each file of the package."""

    def test(self):
        for path in package_files():
            with self.subTest(os.path.basename(path)):
                text = text_of(path)
                check(self, text, ast.parse(text))

    return test


class TestLanguage(unittest.TestCase):
    def test_the_folder_holds_the_files_alone(self):
        names = [name for name in os.listdir(PACKAGE) if name != "__pycache__"]
        self.assertTrue(all(re.fullmatch(r"[a-z_]+\.py", name) for name in names), names)
        self.assertIn("__init__.py", names)
        self.assertLessEqual(len(names), 100)

    @each_file
    def test_characters_and_sizes(self, text, tree):
        self.assertTrue(all(sign == "\n" or " " <= sign <= "~" for sign in text))
        lines = text.splitlines()
        self.assertLessEqual(len(lines), 399)
        self.assertLessEqual(max(len(line) for line in lines), 120)
        for node in ast.walk(tree):
            if isinstance(node, ast.FunctionDef):
                self.assertLessEqual(node.end_lineno - node.lineno + 1, 40, node.name)
            if isinstance(node, ast.Constant) and isinstance(node.value, str):
                self.assertNotIn("%", node.value)

    @each_file
    def test_imports(self, _, tree):
        ahead = True
        for node in tree.body:
            if isinstance(node, ast.ImportFrom):
                self.assertTrue(ahead)
                self.assertEqual(node.level, 0)
                self.assertTrue(all(alias.asname is None for alias in node.names))
                if node.module in LIBRARY:
                    self.assertTrue({alias.name for alias in node.names} <= LIBRARY[node.module])
                    continue
                self.assertRegex(node.module, r"^strikecore\.[a-z]+$")
                source = ast.parse(text_of(os.path.join(PACKAGE, node.module.split(".")[1] + ".py")))
                self.assertTrue({alias.name for alias in node.names} <= names_bound(source, imports=False))
            elif not is_docstring(node):
                ahead = False

    def test_no_file_imports_in_a_ring(self):
        near = {}
        for path in package_files():
            tree = ast.parse(text_of(path))
            name = os.path.basename(path)[:-3]
            imports = [node.module for node in tree.body if isinstance(node, ast.ImportFrom)]
            near[name] = {module.split(".")[1] for module in imports if module not in LIBRARY}
        self.assertEqual(near["__init__"], set())
        while near:
            free = [name for name, others in near.items() if not others & set(near)]
            self.assertTrue(free, near)
            for name in free:
                del near[name]

    @each_file
    def test_imported_names_are_used(self, _, tree):
        used = {node.id for node in ast.walk(tree) if isinstance(node, ast.Name)}
        for node in tree.body:
            if isinstance(node, ast.ImportFrom):
                self.assertTrue({alias.name for alias in node.names} <= used)

    @each_file
    def test_module_level(self, _, tree):
        for node in tree.body:
            if isinstance(node, ast.Assign):
                self.assertEqual(len(node.targets), 1)
                self.assertIsInstance(node.targets[0], ast.Name)
                ast.literal_eval(node.value)
            else:
                kinds = (ast.ImportFrom, ast.FunctionDef, ast.ClassDef)
                self.assertTrue(isinstance(node, kinds) or is_docstring(node), ast.dump(node))

    @each_file
    def test_names_are_bound_once_and_not_hidden(self, _, tree):
        bound = names_in_order(tree)
        self.assertEqual(len(bound), len(set(bound)))
        taken = {alias.name for node in tree.body if isinstance(node, ast.ImportFrom) for alias in node.names}
        taken |= {node.name for node in tree.body if isinstance(node, ast.ClassDef)}
        local = {node.id for node in ast.walk(tree) if isinstance(node, ast.Name) and not is_read(node)}
        local |= {node.arg for node in ast.walk(tree) if isinstance(node, ast.arg)}
        local |= {node.name for node in ast.walk(tree) if isinstance(node, ast.MatchAs) and node.name is not None}
        self.assertEqual(local & taken, set())
        own = local | set(bound)
        self.assertEqual({name for name in own if hasattr(builtins, name)}, set())

    @each_file
    def test_builtins(self, _, tree):
        for node in ast.walk(tree):
            if isinstance(node, ast.Name) and is_read(node) and hasattr(builtins, node.id):
                self.assertIn(node.id, ALLOWED_BUILTINS)

    @each_file
    def test_statements_and_words(self, text, tree):
        for node in ast.walk(tree):
            self.assertNotIsInstance(node, FORBIDDEN_NODES)
            if isinstance(node, ast.Constant):
                self.assertNotIsInstance(node.value, (float, complex))
            if isinstance(node, (ast.FunctionDef, ast.ClassDef)):
                self.assertEqual([one.id for one in node.decorator_list if one.id != "property"], [])
        self.assertIsNone(BARRED_WORDS.search(code_without_docstrings(ast.parse(text))))
        self.assertIsNone(BARRED_NAMES.search(code_without_strings(ast.parse(text))))

    @each_file
    def test_methods_of_builtin_values(self, _, tree):
        own = set()
        for path in package_files():
            for node in ast.walk(ast.parse(text_of(path))):
                if isinstance(node, ast.FunctionDef):
                    own.add(node.name)
        for node in ast.walk(tree):
            if isinstance(node, ast.Call) and isinstance(node.func, ast.Attribute):
                self.assertIn(node.func.attr, ALLOWED_METHODS | own)

    @each_file
    def test_is_stands_beside_none_true_and_false(self, _, tree):
        for node in ast.walk(tree):
            if isinstance(node, ast.Compare):
                for sign, other in zip(node.ops, node.comparators):
                    if isinstance(sign, (ast.Is, ast.IsNot)):
                        self.assertIsInstance(other, ast.Constant)


def is_docstring(node):
    return isinstance(node, ast.Expr) and isinstance(node.value, ast.Constant) and isinstance(node.value.value, str)


def is_read(name):
    return isinstance(name.ctx, ast.Load)


def names_in_order(tree, imports=True):
    names = []
    for node in tree.body:
        if isinstance(node, ast.ImportFrom) and imports:
            names.extend(alias.name for alias in node.names)
        elif isinstance(node, (ast.FunctionDef, ast.ClassDef)):
            names.append(node.name)
        elif isinstance(node, ast.Assign):
            names.append(node.targets[0].id)
    return names


def names_bound(tree, imports=True):
    return set(names_in_order(tree, imports))
