"""Tests of the form of the package: those rules of its subset of Python that a look at the tree can tell."""

import ast
import builtins
import pathlib
import re
import unittest

FOLDER = pathlib.Path(__file__).resolve().parent.parent / "markedpair"
FILES = {path.stem: path.read_text(encoding="utf-8") for path in sorted(FOLDER.glob("*.py"))}
TREES = {stem: ast.parse(text) for stem, text in FILES.items()}

STATEMENTS = (
    ast.Assign, ast.AugAssign, ast.If, ast.While, ast.For, ast.Return, ast.Break, ast.Continue, ast.Pass, ast.Raise,
    ast.Assert, ast.Delete, ast.With, ast.Try, ast.Expr, ast.FunctionDef, ast.ClassDef, ast.ImportFrom,
)
BUILTINS = """len range enumerate zip min max sum abs sorted reversed int str bool list tuple dict set isinstance ord repr
any all divmod iter next super property staticmethod classmethod NotImplemented ValueError TypeError KeyError IndexError
LookupError""".split()
DUNDERS = """init eq repr str len enter exit call iter lt le gt ge ne add sub mul floordiv mod pow and or xor iadd isub iand
ior neg pos invert abs bool contains getitem setitem""".split()
METHODS = """append clear copy count endswith extend find get index insert isalnum isalpha isdigit islower isspace isupper
items join keys ljust lower lstrip partition pop remove replace reverse rfind rjust rpartition rsplit rstrip setdefault split
splitlines startswith strip update upper values zfill bit_length""".split()
UNUSED_NAMES = """register mro elements open input law version_info with_traceback add_note attrgetter breakpoint builtins
compile copyright credits delattr dir eval exec exit gc getattr globals hasattr help id importlib license locals methodcaller
os quit setattr type vars sys""".split()
BARRED = r"\b(type|typing|enum|Enum|Flag|Generic|Protocol|ABC|NamedTuple|namedtuple|_wall|_WallAttr)\b|dataclass|overload|Meta"


def functions():
    """All pairs (file, function) of the package."""
    return [(stem, node) for stem, tree in TREES.items() for node in ast.walk(tree) if isinstance(node, ast.FunctionDef)]


def nodes(*kinds):
    """All pairs (file, node) of these kinds."""
    return [(stem, node) for stem, tree in TREES.items() for node in ast.walk(tree) if isinstance(node, kinds)]


def own_names():
    """All functions, classes and methods that the package defines."""
    return {node.name for _, node in nodes(ast.FunctionDef, ast.ClassDef)}


class TestFiles(unittest.TestCase):

    def test_the_folder_holds_nothing_but_its_files(self):
        for path in FOLDER.iterdir():
            if path.name != "__pycache__":
                self.assertRegex(path.name, r"^[a-z_]+\.py$")
        self.assertIn("__init__", FILES)

    def test_characters_and_sizes(self):
        for stem, text in FILES.items():
            self.assertLessEqual(set(text), {chr(code) for code in range(32, 127)} | {"\n"}, stem)
            self.assertLessEqual(len(text.split("\n")), 399, stem)
            self.assertLessEqual(max(len(line) for line in text.split("\n")), 120, stem)
        for stem, node in functions():
            self.assertLessEqual(node.end_lineno - node.lineno + 1, 40, (stem, node.name))

    def test_barred_words(self):
        for stem, text in FILES.items():
            self.assertIsNone(re.search(BARRED, text), stem)


class TestImportsAndModules(unittest.TestCase):

    def test_imports_name_the_defining_file(self):
        for stem, node in nodes(ast.Import, ast.ImportFrom):
            self.assertIsInstance(node, ast.ImportFrom, stem)
            self.assertEqual((node.level, node.module.split(".")[0]), (0, "markedpair"), stem)
            for alias in node.names:
                self.assertIsNone(alias.asname)
                self.assertIn(alias.name, self.bound_in(TREES[node.module.split(".")[1]]), (stem, alias.name))

    def bound_in(self, tree):
        bound = [node.name for node in tree.body if isinstance(node, (ast.FunctionDef, ast.ClassDef))]
        return bound + [node.targets[0].id for node in tree.body if isinstance(node, ast.Assign)]

    def test_no_two_files_import_from_each_other(self):
        left = {stem: {node.module.split(".")[1] for other, node in nodes(ast.ImportFrom) if other == stem} for stem in TREES}
        while left:
            free = [stem for stem in left if not left[stem] & set(left)]
            self.assertTrue(free, left)
            for stem in free:
                del left[stem]

    def test_module_level(self):
        for stem, tree in TREES.items():
            names = []
            for at, node in enumerate(tree.body):
                if isinstance(node, ast.ImportFrom):
                    names += [alias.name for alias in node.names]
                elif isinstance(node, ast.Assign):
                    self.assert_plain(node.value, tree.body[:at])
                    names.append(node.targets[0].id)
                elif isinstance(node, (ast.FunctionDef, ast.ClassDef)):
                    names.append(node.name)
                else:
                    self.assertEqual((at, type(node)), (0, ast.Expr), stem)
            self.assertEqual(len(names), len(set(names)), stem)

    def assert_plain(self, value, above):
        """A plain value, or a dict from plain values to functions that are defined above it."""
        functions_above = [node.name for node in above if isinstance(node, ast.FunctionDef)]
        if isinstance(value, ast.Dict) and all(isinstance(worth, ast.Name) for worth in value.values):
            for key, worth in zip(value.keys, value.values):
                ast.literal_eval(key)
                self.assertIn(worth.id, functions_above)
        else:
            ast.literal_eval(value)


class TestStatementsAndNames(unittest.TestCase):

    def test_statements(self):
        for stem, node in nodes(ast.stmt):
            self.assertIsInstance(node, STATEMENTS, (stem, node.lineno))
            if isinstance(node, ast.Expr):
                right = isinstance(node.value, (ast.Call, ast.Yield, ast.YieldFrom))
                self.assertTrue(right or isinstance(node.value.value, str), (stem, node.lineno))

    def test_expressions(self):
        for stem, node in nodes(ast.Div, ast.GeneratorExp, ast.Await, ast.NamedExpr, ast.Starred, ast.Constant):
            self.assertNotIsInstance(node, (ast.Div, ast.GeneratorExp, ast.Await, ast.NamedExpr), stem)
            if isinstance(node, ast.Starred):
                self.assertIsInstance(node.value, (ast.Name, ast.Attribute), (stem, node.lineno))
            if isinstance(node, ast.Constant):
                self.assertNotIsInstance(node.value, (float, complex, bytes), stem)
                self.assertFalse(isinstance(node.value, str) and "%" in node.value, (stem, node.lineno))

    def test_is_stands_with_none_true_and_false(self):
        for stem, node in nodes(ast.Compare):
            for sign, right in zip(node.ops, node.comparators):
                if isinstance(sign, (ast.Is, ast.IsNot)):
                    self.assertIn(getattr(right, "value", 0), (None, True, False), (stem, node.lineno))

    def test_builtins_and_bound_names(self):
        for stem, node in nodes(ast.Name):
            if node.id in vars(builtins):
                self.assertIn(node.id, BUILTINS, (stem, node.lineno))
                self.assertIsInstance(node.ctx, ast.Load, (stem, node.lineno))
        names = [(stem, node.arg) for stem, node in nodes(ast.arg)] + [(stem, node.name) for stem, node in functions()]
        names += [(stem, node.id) for stem, node in nodes(ast.Name) if isinstance(node.ctx, ast.Store)]
        for stem, name in names:
            self.assertFalse(name in vars(builtins) or name in UNUSED_NAMES, (stem, name))

    def test_no_local_name_hides_an_import_or_a_class(self):
        for stem, tree in TREES.items():
            taken = {alias.name for node in tree.body if isinstance(node, ast.ImportFrom) for alias in node.names}
            taken |= {node.name for node in tree.body if isinstance(node, (ast.ClassDef, ast.FunctionDef))}
            for function in [node for node in ast.walk(tree) if isinstance(node, ast.FunctionDef)]:
                local = {node.arg for node in ast.walk(function) if isinstance(node, ast.arg)}
                local |= {node.id for node in ast.walk(function)
                          if isinstance(node, ast.Name) and isinstance(node.ctx, ast.Store)}
                self.assertEqual(local & taken, set(), (stem, function.name))

    def test_called_methods(self):
        for stem, node in nodes(ast.Call):
            if isinstance(node.func, ast.Attribute) and node.func.attr not in own_names():
                if node.func.attr != "__init__":
                    self.assertIn(node.func.attr, METHODS, (stem, node.lineno))
                    self.assertEqual(node.keywords, [], (stem, node.lineno))


class TestClasses(unittest.TestCase):

    def test_decorators_and_double_underscores(self):
        for stem, node in functions():
            for decorator in node.decorator_list:
                if isinstance(decorator, ast.Attribute):
                    self.assertEqual((decorator.value.id, decorator.attr), (node.name, "setter"), (stem, node.name))
                else:
                    self.assertIn(decorator.id, ("property", "staticmethod", "classmethod"), (stem, node.name))
            if node.name.startswith("__"):
                self.assertIn(node.name.strip("_"), DUNDERS, (stem, node.name))
        for stem, node in nodes(ast.ClassDef):
            self.assertEqual(node.decorator_list, [], stem)

    def test_generators_have_names_of_their_own(self):
        told = [node.name for _, node in functions()]
        for stem, node in functions():
            if any(isinstance(inner, (ast.Yield, ast.YieldFrom)) for inner in ast.walk(node)):
                self.assertEqual(told.count(node.name), 1, (stem, node.name))

    def test_no_name_is_a_method_and_an_attribute(self):
        methods = {node.name for _, tree in nodes(ast.ClassDef) for node in tree.body if isinstance(node, ast.FunctionDef)}
        stored = {node.attr for _, node in nodes(ast.Attribute) if isinstance(node.ctx, ast.Store)}
        self.assertEqual(methods & stored, set())

    def test_returns_of_texts_and_lengths(self):
        for stem, node in functions():
            if node.name in ("__str__", "__repr__", "__len__"):
                self.assertIsInstance(node.body[-1], ast.Return, (stem, node.lineno))
                for inner in [found for found in ast.walk(node) if isinstance(found, ast.Return)]:
                    self.assertIsInstance(inner.value, (ast.Constant, ast.JoinedStr, ast.Call), (stem, inner.lineno))
                    if isinstance(inner.value, ast.Call):
                        name = getattr(inner.value.func, "id", None) or inner.value.func.attr
                        self.assertIn(name, ("str", "repr", "join", "len"), (stem, inner.lineno))


def generators():
    """The names of all generators of the package."""
    return {node.name for _, node in functions() if any(isinstance(inner, (ast.Yield, ast.YieldFrom)) for inner in ast.walk(node))}


def properties():
    """The names of all properties of the package."""
    return {node.name for _, node in functions() if "property" in [getattr(told, "id", "") for told in node.decorator_list]}


def setters():
    """The names of all properties that can be set."""
    return {told.value.id for _, node in functions() for told in node.decorator_list if isinstance(told, ast.Attribute)}


class TestOperatorsAndGenerators(unittest.TestCase):

    def test_no_sum_in_place(self):
        # Allowed in places; but never in what an operator or a property runs, as a class has __iadd__.
        for stem, node in nodes(ast.AugAssign):
            self.fail((stem, node.lineno))

    def test_calls_of_generators_are_iterated_at_once(self):
        parents = {child: node for _, node in nodes(ast.AST) for child in ast.iter_child_nodes(node)}
        names = generators()
        for stem, node in nodes(ast.Call):
            if (getattr(node.func, "id", None) or getattr(node.func, "attr", None)) in names:
                above = parents[node]
                at_once = isinstance(above, (ast.For, ast.comprehension, ast.YieldFrom))
                listed = isinstance(above, ast.Call) and getattr(above.func, "id", "") in ("list", "tuple", "sorted")
                self.assertTrue(at_once or listed, (stem, node.lineno))
                for told in node.args:
                    self.assertIsInstance(told, (ast.Name, ast.Attribute, ast.Constant), (stem, node.lineno))

    def test_no_attribute_has_the_name_of_a_property(self):
        barred = properties() - setters()
        for stem, node in nodes(ast.Attribute):
            if isinstance(node.ctx, ast.Store):
                self.assertNotIn(node.attr, barred, (stem, node.lineno))

    def test_orders_get_what_is_plainly_numbers_or_strings(self):
        for stem, node in nodes(ast.Call):
            if getattr(node.func, "id", "") in ("sorted", "min", "max"):
                plain = [told for told in node.args if self.is_plain(told)]
                self.assertTrue(plain, (stem, node.lineno))

    def is_plain(self, told):
        if isinstance(told, ast.ListComp):
            return self.is_plain(told.elt)
        if isinstance(told, ast.Call):
            return getattr(told.func, "id", "") in ("int", "str", "len", "range")
        return isinstance(told, ast.Constant)

    def test_exits_only_assign_attributes(self):
        for stem, node in functions():
            if node.name == "__exit__":
                self.assertEqual([told.arg for told in node.args.args], ["self", "kind", "value", "trace"])
                for inner in node.body:
                    self.assertIsInstance(inner, ast.Assign, (stem, inner.lineno))
                    for part in (inner.value, *inner.targets):
                        self.assertIsInstance(part, ast.Attribute, (stem, inner.lineno))
