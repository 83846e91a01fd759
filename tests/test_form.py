"""The form of the package's files: the rules of LANGUAGE.md that can be seen in a file's own tree."""

import ast
import builtins
import pathlib
import re
import unittest

PACKAGE = "fivefields"
FOLDER = pathlib.Path(__file__).resolve().parent.parent / PACKAGE

ERRORS = """Exception ValueError TypeError KeyError IndexError LookupError ZeroDivisionError ArithmeticError
    OverflowError RuntimeError NotImplementedError AttributeError StopIteration""".split()
# chr is listed in L8 and out by L27.
OWN_NAMES = set("""len range enumerate zip min max sum abs sorted reversed int str bool list tuple dict set frozenset
    isinstance ord repr any all divmod""".split() + ERRORS)
METHODS = set("""append clear copy count endswith extend find get index insert isalnum isalpha isdigit islower isspace
    isupper items join keys ljust lower lstrip partition pop remove replace reverse rfind rjust rpartition rsplit
    rstrip setdefault split splitlines startswith strip update upper values zfill bit_length""".split())
SPECIAL = {"__init__", "__eq__", "__repr__", "__str__", "__len__"}
WORDS_OUT = r"""\b(type|typing|typing_extensions|enum|Enum|IntEnum|StrEnum|Flag|IntFlag|Generic|Protocol|ABC|ABCMeta|
    namedtuple|NamedTuple|TypedDict|TYPE_CHECKING|abstractmethod)\b|dataclass|overload|contextmanager"""
NAMES_OUT = set("""register mro elements open input version_info with_traceback add_note attrgetter breakpoint builtins
    compile copyright credits delattr dir eval exec exit gc getattr globals hasattr help id importlib license locals
    methodcaller os quit setattr super type vars sys""".split())
NODES_OUT = (
    ast.With, ast.Match, ast.Delete, ast.Global, ast.Nonlocal, ast.Assert, ast.Yield, ast.YieldFrom, ast.Await,
    ast.AsyncFunctionDef, ast.AsyncFor, ast.AsyncWith, ast.SetComp, ast.DictComp, ast.GeneratorExp, ast.NamedExpr,
    ast.Starred, ast.Div, ast.MatMult, ast.Import, ast.AnnAssign)
PYTHONS = set(dir(builtins))


def files():
    return sorted(FOLDER.rglob("*.py"))


def module_of(path):
    return f"{PACKAGE}.{path.stem}" if path.stem != "__init__" else PACKAGE


def bound_at_top(tree):
    names = []
    for node in tree.body:
        if isinstance(node, (ast.FunctionDef, ast.ClassDef)):
            names.append(node.name)
        elif isinstance(node, ast.ImportFrom):
            names += [alias.asname or alias.name for alias in node.names]
        elif isinstance(node, ast.Assign):
            names += [target.id for target in node.targets]
    return names


def defined_at_top(tree):
    return [name for name in bound_at_top(tree) if name not in imported(tree)]


def imported(tree):
    return [alias.name for node in tree.body if isinstance(node, ast.ImportFrom) for alias in node.names]


def locals_of(tree):
    for node in ast.walk(tree):
        if isinstance(node, ast.arg):
            yield node.arg
    tops = {id(target) for node in tree.body if isinstance(node, ast.Assign) for target in node.targets}
    for node in ast.walk(tree):
        if isinstance(node, ast.Name) and isinstance(node.ctx, ast.Store) and id(node) not in tops:
            yield node.id


def whole_tree(path):
    return ast.parse(path.read_text(encoding="utf-8"))


def nodes():
    """Every node of every file, with the place at which it stands."""
    for path in files():
        for node in ast.walk(whole_tree(path)):
            yield f"{path.name}:{getattr(node, 'lineno', 0)}", node


class Form(unittest.TestCase):
    def test_files_alone(self):
        self.assertTrue((FOLDER / "__init__.py").is_file())
        others = [path for path in FOLDER.rglob("*") if path.suffix != ".py" and "__pycache__" not in path.parts]
        self.assertEqual(others, [])
        for path in files():
            self.assertRegex(path.name, r"^([a-z][a-z0-9_]*|__init__|__main__)\.py$")
            self.assertFalse(path.stem in PYTHONS or path.stem.startswith("test"), path)

    def test_signs_words_and_sizes(self):
        for path in files():
            text = path.read_text(encoding="utf-8")
            self.assertRegex(text, r"\A[ -~\n]*\Z", path.name)
            self.assertIsNone(re.search(WORDS_OUT, text, re.VERBOSE), path.name)
            rows = text.split("\n")
            self.assertLessEqual(len(rows), 400, path.name)
            self.assertLessEqual(max(len(row) for row in rows), 120, path.name)
        for at, node in nodes():
            if isinstance(node, ast.FunctionDef):
                self.assertLessEqual(node.end_lineno - node.lineno + 1, 40, at)

    def test_names_that_are_not_used(self):
        for at, node in nodes():
            for field in ("id", "attr", "name", "arg"):
                name = getattr(node, field, None)
                if isinstance(name, str):
                    self.assertNotIn(name, NAMES_OUT, at)
                    self.assertTrue(name in SPECIAL or not name.startswith("_"), at)

    def test_plain_statements(self):
        for at, node in nodes():
            self.assertNotIsInstance(node, NODES_OUT, at)
            self.assertFalse(getattr(node, "decorator_list", []), at)
            self.assertFalse(getattr(node, "finalbody", []), at)
            if isinstance(node, (ast.For, ast.While)):
                self.assertEqual(node.orelse, [], at)
            if isinstance(node, ast.Assign):
                self.assertEqual([isinstance(target, ast.Tuple) for target in node.targets], [False], at)
            if isinstance(node, ast.arguments):
                self.assertFalse(node.vararg or node.kwarg or node.kwonlyargs or node.posonlyargs, at)

    def test_plain_expressions(self):
        for at, node in nodes():
            if isinstance(node, ast.ListComp):
                self.assertEqual(len(node.generators), 1, at)
                self.assertLessEqual(len(node.generators[0].ifs), 1, at)
            if isinstance(node, ast.FormattedValue):
                self.assertIsInstance(node.value, ast.Name, at)
                self.assertIsNone(node.format_spec, at)
            if isinstance(node, ast.Constant):
                self.assertNotIsInstance(node.value, (float, bytes, complex), at)
                self.assertNotIn("%", str(node.value), at)
            if isinstance(node, ast.BinOp) and isinstance(node.op, ast.Pow):
                self.assertIsInstance(node.right, ast.Constant, at)
                self.assertTrue(0 <= node.right.value <= 64, at)
            if isinstance(node, ast.Compare) and any(isinstance(op, (ast.Is, ast.IsNot)) for op in node.ops):
                self.assertTrue(all(isinstance(side, ast.Constant) for side in node.comparators), at)

    def test_the_top_of_a_file(self):
        for path in files():
            tree = whole_tree(path)
            self.assertIsNotNone(ast.get_docstring(tree), path.name)
            for node in tree.body[1:]:
                self.assertIsInstance(node, (ast.ImportFrom, ast.FunctionDef, ast.ClassDef, ast.Assign), path.name)
                if isinstance(node, ast.Assign):
                    ast.literal_eval(node.value)
            names = bound_at_top(tree)
            self.assertEqual(len(names), len(set(names)), path.name)

    def test_names_of_pythons_own(self):
        for path in files():
            tree = whole_tree(path)
            inner = set(locals_of(tree))
            known = set(bound_at_top(tree)) | inner | OWN_NAMES
            for node in ast.walk(tree):
                if isinstance(node, ast.Name) and isinstance(node.ctx, ast.Load):
                    self.assertIn(node.id, known, path.name)
            self.assertEqual(PYTHONS & (inner | set(defined_at_top(tree))), set(), path.name)
            classes = {node.name for node in tree.body if isinstance(node, ast.ClassDef)}
            self.assertEqual((classes | set(imported(tree))) & inner, set(), path.name)

    def test_methods_of_pythons_own(self):
        own = {node.name for at, node in nodes() if isinstance(node, ast.FunctionDef)}
        for at, node in nodes():
            if isinstance(node, ast.Call) and isinstance(node.func, ast.Attribute):
                self.assertIn(node.func.attr, METHODS | own, at)

    def test_imports(self):
        trees = {module_of(path): whole_tree(path) for path in files()}
        drawn = {}
        for module, tree in trees.items():
            drawn[module] = set()
            for node in ast.walk(tree):
                if isinstance(node, ast.ImportFrom):
                    self.assertIn(node, tree.body, module)
                    self.assertEqual(node.level, 0, module)
                    self.assertIn(node.module, trees, module)
                    for alias in node.names:
                        self.assertIsNone(alias.asname, module)
                        self.assertIn(alias.name, defined_at_top(trees[node.module]), module)
                    drawn[module].add(node.module)
        while drawn:
            free = [module for module in drawn if not drawn[module] & set(drawn)]
            self.assertTrue(free, "files draw from one another")
            drawn = {module: drawn[module] for module in drawn if module not in free}

    def test_no_name_is_a_method_here_and_a_value_there(self):
        methods, values = set(), set()
        for at, node in nodes():
            if isinstance(node, ast.ClassDef):
                methods |= {part.name for part in node.body if isinstance(part, ast.FunctionDef)}
            if isinstance(node, ast.Attribute) and isinstance(node.ctx, ast.Store):
                values.add(node.attr)
        self.assertEqual(methods & values, set())


if __name__ == "__main__":
    unittest.main()
