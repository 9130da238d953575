"""The form of the package: what of LANGUAGE.md a reader of its files can see, rule by rule."""

import ast
import builtins
import pathlib
import re
import tokenize
import unittest

PACKAGE = pathlib.Path(__file__).resolve().parent.parent / "tilefall"

OWN_NAMES = set((
    "len range enumerate zip min max sum abs sorted reversed int str bool list tuple dict set frozenset isinstance ord "
    "repr any all divmod Exception ValueError TypeError KeyError IndexError LookupError ZeroDivisionError "
    "ArithmeticError OverflowError RuntimeError NotImplementedError AttributeError StopIteration"
).split())

METHODS = set((
    "append clear copy count endswith extend find get index insert isalnum isalpha isdigit islower isspace isupper items "
    "join keys ljust lower lstrip partition pop remove replace reverse rfind rjust rpartition rsplit rstrip setdefault "
    "split splitlines startswith strip update upper values zfill bit_length"
).split())

CLASS_METHODS = set("__init__ __eq__ __repr__ __str__ __len__".split())

NO_NAMES = set((
    "register mro elements open input version_info with_traceback add_note attrgetter breakpoint builtins compile "
    "copyright credits delattr dir eval exec exit gc getattr globals hasattr help id importlib license locals "
    "methodcaller os quit setattr super type vars sys chr format format_map print"
).split())

NO_WORDS = re.compile(
    r"\b(type|typing|typing_extensions|enum|Enum|IntEnum|StrEnum|Flag|IntFlag|Generic|Protocol|ABC|ABCMeta|namedtuple"
    r"|NamedTuple|TypedDict|TYPE_CHECKING|abstractmethod)\b|dataclass|overload|contextmanager"
)

NO_FILES = set("test tests testing site conftest sitecustomize usercustomize type typing enum".split()) | set(dir(builtins))

NODES = (
    ast.Module, ast.ImportFrom, ast.alias, ast.FunctionDef, ast.arguments, ast.arg, ast.Lambda, ast.ClassDef,
    ast.Assign, ast.AugAssign, ast.If, ast.While, ast.For, ast.Return, ast.Break, ast.Continue, ast.Pass, ast.Raise,
    ast.Try, ast.ExceptHandler, ast.Expr, ast.Constant, ast.Name, ast.List, ast.Tuple, ast.Dict, ast.Set, ast.BinOp,
    ast.UnaryOp, ast.BoolOp, ast.Compare, ast.IfExp, ast.Call, ast.keyword, ast.Attribute, ast.Subscript, ast.Slice,
    ast.ListComp, ast.comprehension, ast.JoinedStr, ast.FormattedValue, ast.expr_context, ast.boolop, ast.operator,
    ast.unaryop, ast.cmpop,
)


# What changes the thing whose method it is.
CHANGES = set("append clear extend insert pop remove reverse setdefault update".split())

# The values of objects that may be called like a method of Python's own.
VALUES = set("count index title find get join lower upper split strip copy add".split())

WALKED = set("zip enumerate reversed range items keys values".split())

WALKERS = set("list tuple dict sorted sum any all enumerate zip min max".split())

KEYWORDS = {
    "sorted": ("key", "reverse"), "min": ("key", "default"), "max": ("key", "default"), "sum": ("start",),
    "enumerate": ("start",), "zip": ("strict",),
}


def called_name(node):
    return node.func.id if isinstance(node.func, ast.Name) else getattr(node.func, "attr", None)


def first_name(node):
    while not isinstance(node, ast.Name):
        node = getattr(node, "value", getattr(node, "func", None))
        if node is None:
            return None
    return node.id


def source_files():
    return sorted(path for path in PACKAGE.rglob("*") if path.is_file() and "__pycache__" not in path.parts)


def module_name(path):
    return ".".join(path.relative_to(PACKAGE.parent).with_suffix("").parts)


def all_docstrings(tree):
    return [tree.body[0]] if tree.body and isinstance(tree.body[0], ast.Expr) else []


def top_names(tree):
    names = []
    for node in tree.body:
        if isinstance(node, (ast.FunctionDef, ast.ClassDef)):
            names.append(node.name)
        elif isinstance(node, ast.Assign):
            names.extend(target.id for target in node.targets)
    return names


def own_methods(trees):
    return set(
        inner.name for tree in trees for node in tree.body if isinstance(node, ast.ClassDef)
        for inner in node.body if isinstance(inner, ast.FunctionDef)
    )


def bound_names(tree):
    for node in ast.walk(tree):
        if isinstance(node, (ast.FunctionDef, ast.ClassDef)):
            yield node, node.name
        elif isinstance(node, ast.arg):
            yield node, node.arg
        elif isinstance(node, ast.Name) and isinstance(node.ctx, ast.Store):
            yield node, node.id
        elif isinstance(node, ast.ExceptHandler) and node.name:
            yield node, node.name


class TheFiles(unittest.TestCase):
    def test_l1_l14_files_and_signs(self):
        self.assertTrue((PACKAGE / "__init__.py").is_file())
        for path in source_files():
            with self.subTest(path.name):
                self.assertRegex(path.name, r"\A([a-z][a-z0-9_]*|__init__|__main__)\.py\Z")
                self.assertNotIn(path.stem, NO_FILES)
                self.assertFalse(path.stem.startswith("test_"))
                self.assertRegex(path.read_bytes().decode("utf-8"), r"\A[ -~\n]*\Z")

    def test_l10_size(self):
        for path in source_files():
            rows = path.read_text().splitlines()
            with self.subTest(path.name):
                self.assertLessEqual(len(rows), 400)
                self.assertLessEqual(max([len(row) for row in rows], default=0), 120)
                for node in ast.walk(ast.parse(path.read_text())):
                    if isinstance(node, ast.FunctionDef):
                        self.assertLessEqual(node.end_lineno - node.lineno + 1, 40, node.name)

    def test_l17_words_that_stand_nowhere(self):
        for path in source_files():
            with self.subTest(path.name):
                self.assertIsNone(NO_WORDS.search(path.read_text()))

    def test_l27_texts(self):
        for path in source_files():
            with open(path, "rb") as file, self.subTest(path.name):
                for token in tokenize.tokenize(file.readline):
                    if token.type == tokenize.STRING or tokenize.tok_name[token.type].startswith("FSTRING"):
                        self.assertNotIn("%", token.string)
                        self.assertIsNone(re.search(r"""\\[^nt\\'"]""", token.string.replace("\\\\", "")))


class TheCode(unittest.TestCase):
    def setUp(self):
        self.trees = {module_name(path): ast.parse(path.read_text()) for path in source_files()}
        self.methods = own_methods(self.trees.values())

    def check_each(self, kinds, check):
        for module, tree in self.trees.items():
            for node in ast.walk(tree):
                if isinstance(node, kinds):
                    with self.subTest(module=module, line=getattr(node, "lineno", 0)):
                        check(node)

    def test_l2_l16_imports(self):
        drawn = {module: [] for module in self.trees}
        for module, tree in self.trees.items():
            for node in ast.walk(tree):
                if isinstance(node, ast.ImportFrom) and node.module != "__future__":
                    with self.subTest(module=module, line=node.lineno):
                        self.assertIn(node, tree.body)
                        self.assertEqual(node.level, 0)
                        self.assertIn(node.module, self.trees)
                        self.assertNotIn("__", node.module)
                        for name in node.names:
                            self.assertIsNone(name.asname)
                            self.assertIn(name.name, top_names(self.trees[node.module]))
                        drawn[module].append(node.module)
        while drawn:
            free = [module for module in drawn if not any(other in drawn for other in drawn[module])]
            self.assertTrue(free, "files draw from one another")
            for module in free:
                drawn.pop(module)

    def test_l3_l15_the_top_of_a_module(self):
        kinds = (ast.ImportFrom, ast.FunctionDef, ast.ClassDef, ast.Assign)
        values = (ast.Constant, ast.List, ast.Tuple, ast.Dict, ast.Name, ast.UnaryOp, ast.USub, ast.expr_context)
        for module, tree in self.trees.items():
            with self.subTest(module):
                self.assertEqual(sorted(set(top_names(tree))), sorted(top_names(tree)))
                for node in tree.body[len(all_docstrings(tree)):]:
                    self.assertIsInstance(node, kinds)
                    if isinstance(node, ast.Assign):
                        for part in ast.walk(node.value):
                            self.assertIsInstance(part, values)
                        for part in list(ast.walk(node.value))[1:]:
                            self.assertNotIsInstance(part, (ast.List, ast.Dict))

    def test_l4_functions(self):
        def check(node):
            self.assertEqual(getattr(node, "decorator_list", []), [])
            self.assertIsNone(node.args.vararg)
            self.assertIsNone(node.args.kwarg)
            self.assertEqual(node.args.kwonlyargs + node.args.posonlyargs, [])
            for default in node.args.defaults:
                self.assertIsInstance(default, ast.Constant)
        self.check_each((ast.FunctionDef, ast.Lambda), check)

    def test_l5_classes(self):
        def check(node):
            self.assertEqual(node.decorator_list + node.keywords, [])
            self.assertLessEqual(len(node.bases), 1)
            for inner in node.body:
                self.assertIsInstance(inner, (ast.FunctionDef, ast.Pass))
            names = [inner.name for inner in node.body if isinstance(inner, ast.FunctionDef)]
            self.assertEqual(sorted(set(names)), sorted(names))
            for name in names:
                self.assertTrue(name in CLASS_METHODS or not name.startswith("_"), name)
        self.check_each(ast.ClassDef, check)

    def test_l6_l7_only_the_listed_forms(self):
        texts = [text for tree in self.trees.values() for text in all_docstrings(tree)]

        def check(node):
            self.assertIsInstance(node, NODES)
            self.assertNotIsInstance(node, (ast.Div, ast.MatMult))
            if isinstance(node, ast.Expr) and node not in texts:
                self.assertIsInstance(node.value, ast.Call)
            if isinstance(node, (ast.For, ast.While)):
                self.assertEqual(node.orelse, [])
            if isinstance(node, ast.Assign):
                self.assertEqual(len(node.targets), 1)
            if isinstance(node, ast.Try):
                self.assertEqual(node.finalbody, [])
            if isinstance(node, ast.Constant):
                self.assertTrue(node.value is None or isinstance(node.value, (int, str)))
        self.check_each(ast.AST, check)

    def test_l7_comprehensions(self):
        def check(node):
            self.assertEqual(len(node.generators), 1)
            self.assertLessEqual(len(node.generators[0].ifs), 1)
        self.check_each(ast.ListComp, check)

    def test_l7_f_strings(self):
        def check(node):
            self.assertIsInstance(node.value, ast.Name)
            self.assertIn(node.conversion, (-1, ord("r")))
            self.assertIsNone(node.format_spec)
        self.check_each(ast.FormattedValue, check)

    def test_l8_l17_names_that_are_used(self):
        def check(node):
            if hasattr(builtins, node.id):
                self.assertIn(node.id, OWN_NAMES)
            self.assertNotIn(node.id, NO_NAMES)
        self.check_each(ast.Name, check)

    def test_l12_l15_names_that_are_given(self):
        for module, tree in self.trees.items():
            imports = [name.name for node in tree.body if isinstance(node, ast.ImportFrom) for name in node.names]
            for node, name in bound_names(tree):
                with self.subTest(module=module, line=node.lineno):
                    self.assertRegex(name, r"\A[A-Za-z][A-Za-z0-9_]*\Z|\A__(init|eq|repr|str|len)__\Z")
                    self.assertNotIn(name, imports)
                    self.assertFalse(hasattr(builtins, name) and name not in self.methods, name)

    def test_l17_attributes(self):
        def check(node):
            self.assertNotIn(node.attr, NO_NAMES)
            self.assertTrue(node.attr == "__init__" or not node.attr.startswith("_"), node.attr)
        self.check_each(ast.Attribute, check)

    def test_l25_l26_methods(self):
        def check(node):
            if isinstance(node.func, ast.Attribute) and node.func.attr != "__init__":
                self.assertIn(node.func.attr, METHODS | self.methods)
        self.check_each(ast.Call, check)

    def test_l19_errors_that_are_taken(self):
        def check(node):
            self.assertIsNotNone(node.type)
            for part in ast.walk(node.type):
                if isinstance(part, ast.Name):
                    self.assertNotIn(part.id, ("Exception", "TypeError"))
        self.check_each(ast.ExceptHandler, check)

    def test_l19_errors_that_are_raised(self):
        def check(node):
            self.assertIsInstance(node.exc, ast.Call)
        self.check_each(ast.Raise, check)

    def test_l20_is(self):
        def check(node):
            for sign, right in zip(node.ops, node.comparators):
                if isinstance(sign, (ast.Is, ast.IsNot)):
                    self.assertIsInstance(right, ast.Constant)
                    self.assertTrue(right.value is None or isinstance(right.value, bool))
        self.check_each(ast.Compare, check)

    def test_l23_l24_walked_at_once(self):
        def check(node):
            if isinstance(node.value, ast.Call) and isinstance(node.value.func, ast.Name):
                self.assertNotIn(node.value.func.id, ("set", "frozenset", "zip", "enumerate", "reversed", "range"))
            if isinstance(node.value, ast.Call) and isinstance(node.value.func, ast.Attribute):
                self.assertNotIn(node.value.func.attr, ("items", "keys", "values"))
        self.check_each((ast.Assign, ast.Return), check)

    def test_l18_l26_values_of_objects(self):
        foreign = set(name for kind in (str, int, list, dict, set, bytes) for name in dir(kind))

        def check(node):
            if isinstance(node.ctx, ast.Store):
                self.assertIsInstance(node.value, ast.Name)
                self.assertNotIn(node.attr, self.methods)
                self.assertNotIn(node.attr, foreign - VALUES)
        self.check_each(ast.Attribute, check)

    def test_l26_methods_that_are_given(self):
        foreign = set(name for kind in (str, int, list, dict, set, bytes) for name in dir(kind))
        self.assertEqual(self.methods & (foreign - METHODS - CLASS_METHODS - set(("add", "discard"))), set())

    def test_l22_keywords(self):
        def check(node):
            if isinstance(node.func, ast.Name) and node.func.id in OWN_NAMES:
                for keyword in node.keywords:
                    self.assertIn(keyword.arg, KEYWORDS.get(node.func.id, ()))
            elif isinstance(node.func, ast.Attribute) and node.func.attr in METHODS:
                self.assertEqual(node.keywords, [])
        self.check_each(ast.Call, check)

    def test_l22_python_s_own_are_called_and_not_kept(self):
        for module, tree in self.trees.items():
            free = set()
            for node in ast.walk(tree):
                if isinstance(node, ast.Call):
                    free.add(node.func)
                    free.update(keyword.value for keyword in node.keywords if keyword.arg == "key")
                    if isinstance(node.func, ast.Name) and node.func.id == "isinstance":
                        free.update(ast.walk(node.args[1]))
                elif isinstance(node, ast.ClassDef):
                    free.update(node.bases)
                elif isinstance(node, ast.ExceptHandler):
                    free.update(ast.walk(node.type))
            for node in ast.walk(tree):
                if isinstance(node, ast.Name) and node.id in OWN_NAMES:
                    with self.subTest(module=module, line=node.lineno):
                        self.assertIn(node, free)

    def test_l23_where_walks_stand(self):
        for module, tree in self.trees.items():
            free = set()
            for node in ast.walk(tree):
                if isinstance(node, (ast.For, ast.comprehension)):
                    free.add(node.iter)
                elif isinstance(node, ast.Call) and isinstance(node.func, ast.Name) and node.func.id in WALKERS:
                    free.update(node.args if node.func.id in ("zip", "enumerate") else node.args[:1])
                elif isinstance(node, ast.Call) and isinstance(node.func, ast.Attribute) and node.func.attr == "join":
                    free.update(node.args)
            for node in ast.walk(tree):
                if isinstance(node, ast.Call) and called_name(node) in WALKED:
                    with self.subTest(module=module, line=node.lineno):
                        self.assertIn(node, free)

    def test_l23_what_a_loop_walks_is_not_changed_in_it(self):
        def check(node):
            walked = [part.id for part in ast.walk(node.iter) if isinstance(part, ast.Name)]
            for part in [part for row in node.body for part in ast.walk(row)]:
                if isinstance(part, ast.Call) and isinstance(part.func, ast.Attribute) and part.func.attr in CHANGES:
                    self.assertNotIn(first_name(part.func.value), walked)
                elif isinstance(part, ast.Subscript) and isinstance(part.ctx, ast.Store):
                    self.assertNotIn(first_name(part), walked)
        self.check_each(ast.For, check)

    def test_l15_what_stands_at_a_file_s_top_is_only_read(self):
        for module, tree in self.trees.items():
            kept = [
                node.targets[0].id for node in tree.body
                if isinstance(node, ast.Assign) and isinstance(node.value, (ast.List, ast.Dict))
            ]
            for node in ast.walk(tree):
                changed = None
                if isinstance(node, ast.Call) and isinstance(node.func, ast.Attribute) and node.func.attr in CHANGES:
                    changed = first_name(node.func.value)
                elif isinstance(node, ast.Subscript) and isinstance(node.ctx, ast.Store):
                    changed = first_name(node)
                elif isinstance(node, ast.Return) and isinstance(node.value, ast.Name):
                    changed = node.value.id
                with self.subTest(module=module, line=getattr(node, "lineno", 0)):
                    self.assertNotIn(changed, kept)

    def test_l21_annotations(self):
        def check(node):
            self.assertIsNone(getattr(node, "annotation", None))
            self.assertIsNone(getattr(node, "returns", None))
        self.check_each((ast.arg, ast.FunctionDef), check)

    def test_l24_sets(self):
        for module, tree in self.trees.items():
            free = set()
            for node in ast.walk(tree):
                if isinstance(node, ast.Compare):
                    free.update(ast.walk(node))
                elif isinstance(node, ast.Call) and called_name(node) in ("sorted", "len") and not node.keywords:
                    free.update(ast.walk(node))
            for node in ast.walk(tree):
                if isinstance(node, ast.Call) and called_name(node) in ("set", "frozenset"):
                    with self.subTest(module=module, line=node.lineno):
                        self.assertIn(node, free)

    def test_l27_powers(self):
        def check(node):
            if isinstance(node.op, ast.Pow):
                self.assertIsInstance(node.right, ast.Constant)
                self.assertIn(node.right.value, range(65))
        self.check_each(ast.BinOp, check)


if __name__ == "__main__":
    unittest.main()
