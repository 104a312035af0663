"""The rules of the written form that can be seen file by file: sizes, signs, imports, statements, names."""

import ast
import builtins
import pathlib
import re
import unittest

PACKAGE = pathlib.Path(__file__).resolve().parent.parent / "voucherstack"

STATEMENTS = (
    ast.Assign, ast.AugAssign, ast.AnnAssign, ast.If, ast.While, ast.For, ast.Return, ast.Break, ast.Continue,
    ast.Pass, ast.Raise, ast.Try, ast.Expr, ast.FunctionDef, ast.ClassDef, ast.ImportFrom,
)
NOT_USED = (
    ast.Set, ast.SetComp, ast.DictComp, ast.GeneratorExp, ast.NamedExpr, ast.Starred, ast.Div, ast.Await,
    ast.Yield, ast.YieldFrom,
)
OWN_NAMES_OF_PYTHON = set(
    "len range enumerate zip min max sum abs sorted reversed int str bool list tuple dict set frozenset isinstance "
    "ord repr any all divmod Exception ValueError TypeError KeyError IndexError LookupError ZeroDivisionError "
    "ArithmeticError OverflowError RuntimeError NotImplementedError AttributeError StopIteration".split()
)
WORDS_NOT_USED = re.compile(
    r"\b(type|typing|typing_extensions|enum|Enum|IntEnum|StrEnum|Flag|IntFlag|Generic|Protocol|ABC|ABCMeta"
    r"|namedtuple|NamedTuple|TypedDict|TYPE_CHECKING|abstractmethod)\b|dataclass|overload|contextmanager"
)
METHODS_WITH_TWO_UNDERSCORES = ("__init__", "__eq__", "__repr__", "__str__", "__len__")
METHODS_OF_PYTHON = set(
    "append clear copy count endswith extend find get index insert isalnum isalpha isdigit islower isspace isupper "
    "items join keys ljust lower lstrip partition pop remove replace reverse rfind rjust rpartition rsplit rstrip "
    "setdefault split splitlines startswith strip update upper values zfill bit_length".split()
)
VALUES_LIKE_PYTHONS_OWN = "count index title find get join lower upper split strip copy add".split()
KEYWORDS = (
    ("sorted", "key"), ("sorted", "reverse"), ("min", "key"), ("min", "default"), ("max", "key"), ("max", "default"),
    ("sum", "start"), ("enumerate", "start"), ("zip", "strict"),
)
WALKED_AT_ONCE = ("zip", "enumerate", "reversed", "range")
WALKERS = ("list", "tuple", "dict", "sorted", "sum", "any", "all", "enumerate", "zip", "min", "max")


def sources():
    return sorted(PACKAGE.glob("*.py"))


def nodes():
    for path in sources():
        for node in ast.walk(ast.parse(path.read_text(encoding="utf-8"))):
            yield path.name, node


def bound_names(node):
    if isinstance(node, ast.Name):
        return [node.id]
    if isinstance(node, ast.arg):
        return [node.arg]
    if isinstance(node, ast.Attribute):
        return [node.attr]
    if isinstance(node, (ast.FunctionDef, ast.ClassDef)):
        return [node.name]
    return []


def trees():
    return {path.stem: ast.parse(path.read_text(encoding="utf-8")) for path in sources()}


def names_at_the_top(tree):
    names = []
    for node in tree.body:
        if isinstance(node, (ast.FunctionDef, ast.ClassDef)):
            names.append(node.name)
        elif isinstance(node, ast.ImportFrom):
            names += [each.name for each in node.names]
        elif isinstance(node, ast.Assign):
            names += [target.id for target in node.targets]
    return names


def drawn_from(tree):
    return [node.module.split(".")[1] for node in tree.body if isinstance(node, ast.ImportFrom)]


def methods_and_values():
    methods = {}
    values = {}
    for name, node in nodes():
        if isinstance(node, ast.ClassDef):
            methods.update((each.name, True) for each in node.body if isinstance(each, ast.FunctionDef))
        if isinstance(node, ast.Attribute) and isinstance(node.ctx, ast.Store):
            values[node.attr] = True
    return methods, values


class Files(unittest.TestCase):
    def test_nothing_but_modules_in_the_package(self):
        names = [path.name for path in PACKAGE.iterdir() if path.name != "__pycache__"]
        self.assertIn("__init__.py", names)
        for name in names:
            self.assertRegex(name, r"^(__init__|[a-z][a-z0-9_]*)\.py$")
            self.assertNotRegex(name, r"^(test|conftest|site)")

    def test_sizes_and_signs(self):
        for path in sources():
            text = path.read_bytes().decode("ascii")
            rows = text.split("\n")
            self.assertLessEqual(len(rows), 400, path)
            for row in rows:
                self.assertLessEqual(len(row), 120, path)
                self.assertRegex(row, r"^[ -~]*$", path)
                self.assertIsNone(WORDS_NOT_USED.search(row), (path, row))


class Code(unittest.TestCase):
    def test_length_of_functions(self):
        for name, node in nodes():
            if isinstance(node, ast.FunctionDef):
                self.assertLessEqual(node.end_lineno - node.lineno + 1, 40, (name, node.name))

    def test_statements_and_expressions(self):
        for name, node in nodes():
            if isinstance(node, ast.stmt):
                self.assertIsInstance(node, STATEMENTS, (name, node.lineno))
            self.assertNotIsInstance(node, NOT_USED, name)
            if isinstance(node, ast.Constant):
                self.assertNotIsInstance(node.value, (float, complex, bytes), name)

    def test_imports(self):
        for name, node in nodes():
            if isinstance(node, ast.ImportFrom):
                self.assertEqual(node.level, 0, name)
                self.assertRegex(node.module, r"^voucherstack\.[a-z_]+$", name)
                self.assertNotIn("*", [each.name for each in node.names], name)

    def test_functions_and_classes_are_plain(self):
        for name, node in nodes():
            if isinstance(node, (ast.FunctionDef, ast.ClassDef)):
                self.assertEqual(node.decorator_list, [], (name, node.name))
            if isinstance(node, ast.arguments):
                self.assertEqual((node.vararg, node.kwarg, node.kwonlyargs, node.posonlyargs), (None, None, [], []))
            if isinstance(node, ast.ClassDef):
                self.assertLessEqual(len(node.bases), 1, (name, node.name))

    def test_nothing_but_methods_in_a_class(self):
        for name, node in nodes():
            if isinstance(node, ast.ClassDef):
                for each in node.body:
                    self.assertIsInstance(each, (ast.FunctionDef, ast.Pass), (name, node.name))

    def test_keywords_at_pythons_own(self):
        for name, node in nodes():
            if isinstance(node, ast.Call) and isinstance(node.func, ast.Name) and hasattr(builtins, node.func.id):
                for keyword in node.keywords:
                    self.assertIn((node.func.id, keyword.arg), KEYWORDS, (name, node.lineno))

    def test_texts(self):
        for name, node in nodes():
            if isinstance(node, ast.Constant) and isinstance(node.value, str):
                self.assertNotIn("%", node.value, name)

    def test_errors_are_made_on_the_spot_and_taken_by_name(self):
        for name, node in nodes():
            if isinstance(node, ast.Raise):
                self.assertIsInstance(node.exc, ast.Call, (name, node.lineno))
            if isinstance(node, ast.ExceptHandler):
                self.assertIsInstance(node.type, ast.Name, (name, node.lineno))
                self.assertNotIn(node.type.id, ("Exception", "TypeError"), (name, node.lineno))

    def test_names(self):
        for file_name, node in nodes():
            for name in bound_names(node):
                if name not in METHODS_WITH_TWO_UNDERSCORES:
                    self.assertRegex(name, r"^[A-Za-z][A-Za-z0-9_]*$", file_name)
            if isinstance(node, ast.Name) and hasattr(builtins, node.id):
                self.assertIn(node.id, OWN_NAMES_OF_PYTHON, file_name)

    def test_one_target_and_no_further_parts(self):
        for name, node in nodes():
            if isinstance(node, ast.Assign):
                self.assertEqual(len(node.targets), 1, (name, node.lineno))
                self.assertNotIsInstance(node.targets[0], (ast.Tuple, ast.List), (name, node.lineno))
            if isinstance(node, (ast.For, ast.While)):
                self.assertEqual(node.orelse, [], (name, node.lineno))
            if isinstance(node, ast.Try):
                self.assertEqual(node.finalbody, [], (name, node.lineno))

    def test_comprehensions(self):
        for name, node in nodes():
            if isinstance(node, ast.ListComp):
                self.assertEqual(len(node.generators), 1, (name, node.lineno))
                self.assertLessEqual(len(node.generators[0].ifs), 1, (name, node.lineno))

    def test_is_beside_none_true_and_false_alone(self):
        for name, node in nodes():
            if isinstance(node, ast.Compare):
                for sign, right in zip(node.ops, node.comparators):
                    if isinstance(sign, (ast.Is, ast.IsNot)):
                        self.assertIsInstance(right, ast.Constant, (name, node.lineno))
                        self.assertIn(repr(right.value), ("None", "True", "False"), (name, node.lineno))

    def test_walked_at_once(self):
        for name, tree in trees().items():
            walked = [node.iter for node in ast.walk(tree) if isinstance(node, (ast.For, ast.comprehension))]
            for node in ast.walk(tree):
                if isinstance(node, ast.Call) and isinstance(node.func, ast.Name) and node.func.id in WALKERS:
                    walked += node.args[:1]
            for node in ast.walk(tree):
                if isinstance(node, ast.Call) and isinstance(node.func, ast.Name) and node.func.id in WALKED_AT_ONCE:
                    self.assertIn(node, walked, (name, node.lineno))


class TopOfAFile(unittest.TestCase):
    def check_plain(self, node, above, inner=False):
        """A number, a text or the like; a function from above; or a tuple, and outside of these a list or dict."""
        if isinstance(node, ast.Name):
            self.assertIn(node.id, above)
        elif isinstance(node, ast.Tuple):
            for each in node.elts:
                self.check_plain(each, above, True)
        elif isinstance(node, (ast.List, ast.Dict)):
            self.assertFalse(inner)
            for each in node.elts if isinstance(node, ast.List) else node.keys + node.values:
                self.check_plain(each, above, True)
        else:
            self.assertIsInstance(node, ast.Constant)

    def test_what_stands_there(self):
        for name, tree in trees().items():
            above = []
            for place, node in enumerate(tree.body):
                if isinstance(node, ast.Assign):
                    self.check_plain(node.value, above)
                elif isinstance(node, ast.Expr):
                    self.assertEqual((place, type(node.value.value)), (0, str), name)
                else:
                    self.assertIsInstance(node, (ast.FunctionDef, ast.ClassDef, ast.ImportFrom), name)
                if isinstance(node, ast.FunctionDef):
                    above.append(node.name)

    def test_lists_and_dicts_are_only_read(self):
        for name, tree in trees().items():
            kept = [node.targets[0].id for node in tree.body
                    if isinstance(node, ast.Assign) and isinstance(node.value, (ast.List, ast.Dict))]
            read = []
            for node in ast.walk(tree):
                if isinstance(node, ast.Subscript) and isinstance(node.ctx, ast.Load):
                    read.append(node.value)
                if isinstance(node, ast.Compare):
                    read += node.comparators
                if isinstance(node, (ast.For, ast.comprehension)):
                    read.append(node.iter)
            for node in ast.walk(tree):
                if isinstance(node, ast.Name) and isinstance(node.ctx, ast.Load) and node.id in kept:
                    self.assertIn(node, read, (name, node.lineno))


class NamesOfAPackage(unittest.TestCase):
    def test_each_name_once_at_the_top(self):
        for name, tree in trees().items():
            names = names_at_the_top(tree)
            self.assertEqual(len(names), len(set(names)), name)

    def test_no_local_like_a_class_an_import_or_pythons_own(self):
        for name, tree in trees().items():
            taken = [node.name for node in tree.body if isinstance(node, ast.ClassDef)]
            for node in tree.body:
                if isinstance(node, ast.ImportFrom):
                    taken += [each.name for each in node.names]
            for node in ast.walk(tree):
                if isinstance(node, ast.arg) or isinstance(node, ast.Name) and isinstance(node.ctx, ast.Store):
                    for bound in bound_names(node):
                        self.assertNotIn(bound, taken, name)
                        self.assertFalse(hasattr(builtins, bound), (name, bound))

    def test_imports_are_from_the_file_that_defines(self):
        all_trees = trees()
        for name, tree in all_trees.items():
            for node in tree.body:
                if isinstance(node, ast.ImportFrom):
                    from_tree = all_trees[node.module.split(".")[1]]
                    defined = [each.name for each in from_tree.body if hasattr(each, "name")]
                    for each in node.names:
                        self.assertIn(each.name, defined, name)

    def test_no_two_files_draw_from_one_another(self):
        left = {name: drawn_from(tree) for name, tree in trees().items()}
        while left:
            free = [name for name in left if not any(other in left for other in left[name])]
            self.assertNotEqual(free, [], left)
            for name in free:
                del left[name]

    def test_methods_that_are_called(self):
        own = methods_and_values()[0]
        for name, node in nodes():
            if isinstance(node, ast.Call) and isinstance(node.func, ast.Attribute):
                self.assertTrue(node.func.attr in own or node.func.attr in METHODS_OF_PYTHON, (name, node.func.attr))

    def test_no_name_is_a_method_and_a_value(self):
        methods, values = methods_and_values()
        self.assertEqual([name for name in methods if name in values], [])

    def test_values_are_not_called_like_pythons_own(self):
        for name in methods_and_values()[1]:
            for sort in (str, int, list, dict, set, bytes):
                self.assertTrue(name in VALUES_LIKE_PYTHONS_OWN or not hasattr(sort, name), name)


if __name__ == "__main__":
    unittest.main()
