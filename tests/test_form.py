"""The form of the package's own files: the small part of Python that it keeps to, as far as a test can see it."""

import ast
import builtins
import pathlib
import re
import unittest

import cupdraw

FOLDER = pathlib.Path(cupdraw.__file__).parent

NODES = (
    "Module FunctionDef ClassDef arguments arg Expr Assign AugAssign AnnAssign If While For Return Break Continue Pass "
    "Raise Try ExceptHandler ImportFrom alias Constant JoinedStr FormattedValue Name Load Store Attribute Subscript "
    "Slice Call keyword Lambda IfExp ListComp comprehension List Tuple Dict Set Compare BoolOp And Or UnaryOp Not USub "
    "UAdd Invert BinOp Add Sub Mult FloorDiv Mod Pow BitAnd BitOr BitXor LShift RShift Eq NotEq Lt LtE Gt GtE In NotIn "
    "Is IsNot"
).split()

OWN_NAMES = (
    "len range enumerate zip min max sum abs sorted reversed int str bool list tuple dict set frozenset isinstance ord "
    "repr any all divmod Exception ValueError TypeError KeyError IndexError LookupError ZeroDivisionError "
    "ArithmeticError OverflowError RuntimeError NotImplementedError AttributeError StopIteration"
).split()

METHODS_WITH_UNDERSCORES = ("__init__", "__eq__", "__repr__", "__str__", "__len__")

WORDS = (
    "type typing typing_extensions enum Enum IntEnum StrEnum Flag IntFlag Generic Protocol ABC ABCMeta namedtuple "
    "NamedTuple TypedDict TYPE_CHECKING abstractmethod"
).split()
PARTS_OF_WORDS = ("dataclass", "overload", "contextmanager")

UNUSED = "register mro elements open input version_info with_traceback add_note format format_map".split()
UNUSED_NAMES = (
    "attrgetter breakpoint builtins compile copyright credits delattr dir eval exec exit gc getattr globals hasattr "
    "help id importlib license locals methodcaller os quit setattr super type vars sys __name__ chr print"
).split()

METHODS_OF_PYTHONS_OWN = (
    "append clear copy count endswith extend find get index insert isalnum isalpha isdigit islower isspace isupper "
    "items join keys ljust lower lstrip partition pop remove replace reverse rfind rjust rpartition rsplit rstrip "
    "setdefault split splitlines startswith strip update upper values zfill bit_length"
).split()

KEYWORDS = {
    "sorted": ("key", "reverse"), "min": ("key", "default"), "max": ("key", "default"), "sum": ("start",),
    "enumerate": ("start",), "zip": ("strict",),
}

# What may stand as key=, beside a lambda, an own def and an own method.
KEYS = "len int str abs sum min max tuple".split()

CHANGES = "append clear extend insert pop remove reverse setdefault update".split()

WALKED_AT_ONCE = ("zip", "enumerate", "reversed", "range", "items", "keys", "values")
WALKERS = ("list", "tuple", "dict", "sorted", "sum", "any", "all", "enumerate", "zip", "min", "max", "join")


def files():
    return sorted(path for path in FOLDER.rglob("*") if path.is_file() and "__pycache__" not in path.parts)


def trees():
    return [(path.name, ast.parse(path.read_text("utf-8"))) for path in files()]


def module_name(path):
    return ".".join(("cupdraw",) + path.relative_to(FOLDER).with_suffix("").parts)


def bound_names(tree):
    """Every name that is bound somewhere, with the node that binds it."""
    names = []
    for node in ast.walk(tree):
        if isinstance(node, (ast.FunctionDef, ast.ClassDef)):
            names.append((node.name, node))
        elif isinstance(node, ast.arg):
            names.append((node.arg, node))
        elif isinstance(node, ast.Name) and isinstance(node.ctx, ast.Store):
            names.append((node.id, node))
        elif isinstance(node, ast.Attribute) and isinstance(node.ctx, ast.Store):
            names.append((node.attr, node))
        elif isinstance(node, ast.ExceptHandler) and node.name:
            names.append((node.name, node))
    return names


def top_names(tree):
    """The names that a file binds at its top, but for imports."""
    names = []
    for node in tree.body:
        if isinstance(node, (ast.FunctionDef, ast.ClassDef)):
            names.append(node.name)
        elif isinstance(node, ast.Assign):
            names.append(node.targets[0].id)
    return names


def imported_names(tree):
    return [alias.name for node in tree.body if isinstance(node, ast.ImportFrom) for alias in node.names]


class Files(unittest.TestCase):

    def test_names_and_kinds(self):
        self.assertTrue((FOLDER / "__init__.py").is_file())
        for path in files():
            self.assertRegex(path.name, r"^([a-z][a-z0-9_]*|__init__|__main__)\.py$")
            self.assertFalse(path.stem.startswith("test"), path)
            self.assertNotIn(path.stem, dir(builtins))

    def test_signs_and_sizes(self):
        for path in files():
            rows = path.read_bytes().split(b"\n")
            self.assertLessEqual(len(rows) - 1, 400, path)
            for number, row in enumerate(rows, 1):
                self.assertLessEqual(len(row), 120, (path, number))
                self.assertTrue(all(32 <= sign <= 126 for sign in row), (path, number))

    def test_words(self):
        for path in files():
            text = path.read_text("utf-8")
            for word in WORDS:
                self.assertIsNone(re.search(rf"\b{word}\b", text), (path, word))
            for part in PARTS_OF_WORDS:
                self.assertNotIn(part, text, path)

    def test_functions_are_short(self):
        for name, tree in trees():
            for node in ast.walk(tree):
                if isinstance(node, ast.FunctionDef):
                    self.assertLessEqual(node.end_lineno - node.lineno + 1, 40, (name, node.name))


class Imports(unittest.TestCase):

    def test_names_are_drawn_from_the_file_that_defines_them(self):
        defined = {module_name(path): top_names(tree) for path, (_, tree) in zip(files(), trees())}
        for name, tree in trees():
            for node in ast.walk(tree):
                if isinstance(node, ast.ImportFrom):
                    self.assertIn(node, tree.body, name)
                    self.assertEqual(node.level, 0, name)
                    for alias in node.names:
                        self.assertIn(alias.name, defined[node.module], name)
                        self.assertIsNone(alias.asname, name)

    def test_no_two_files_draw_from_one_another(self):
        drawn = {}
        for path, (_, tree) in zip(files(), trees()):
            drawn[module_name(path)] = {node.module for node in tree.body if isinstance(node, ast.ImportFrom)}
        while drawn:
            free = [module for module in drawn if not drawn[module] & set(drawn)]
            self.assertTrue(free, drawn)
            for module in free:
                drawn.pop(module)

    def test_the_first_file_binds_nothing(self):
        tree = dict(trees())["__init__.py"]
        self.assertEqual(top_names(tree) + imported_names(tree), [])


class Code(unittest.TestCase):

    def each_node(self):
        for name, tree in trees():
            for node in ast.walk(tree):
                yield (name, getattr(node, "lineno", 0)), node

    def test_only_the_plain_parts_of_the_language(self):
        for place, node in self.each_node():
            self.assertIn(type(node).__name__, NODES, place)
            if isinstance(node, ast.Constant):
                self.assertIsInstance(node.value, (int, str, type(None)), place)
            if isinstance(node, (ast.FunctionDef, ast.ClassDef)):
                self.assertEqual(node.decorator_list, [], place)
            if isinstance(node, (ast.For, ast.While)):
                self.assertEqual(node.orelse, [], place)
            if isinstance(node, ast.Try):
                self.assertEqual(node.finalbody, [], place)

    def test_one_target_in_an_assignment(self):
        for place, node in self.each_node():
            if isinstance(node, ast.Assign):
                self.assertEqual(len(node.targets), 1, place)
                self.assertNotIsInstance(node.targets[0], (ast.Tuple, ast.List), place)

    def test_plain_parameters(self):
        for place, node in self.each_node():
            if isinstance(node, ast.arguments):
                self.assertEqual((node.vararg, node.kwarg), (None, None), place)
                self.assertEqual(node.kwonlyargs + node.posonlyargs, [], place)

    def test_comprehensions_are_short(self):
        for place, node in self.each_node():
            if isinstance(node, ast.ListComp):
                self.assertEqual(len(node.generators), 1, place)
                self.assertLessEqual(len(node.generators[0].ifs), 1, place)

    def test_is_stands_beside_plain_values_alone(self):
        for place, node in self.each_node():
            if isinstance(node, ast.Compare) and any(isinstance(op, (ast.Is, ast.IsNot)) for op in node.ops):
                self.assertTrue(any(
                    isinstance(side, ast.Constant) and side.value in (None, True, False)
                    for side in [node.left] + node.comparators
                ), place)

    def test_powers_and_texts(self):
        for place, node in self.each_node():
            if isinstance(node, ast.BinOp) and isinstance(node.op, ast.Pow):
                self.assertIsInstance(node.right, ast.Constant, place)
                self.assertIn(node.right.value, range(65), place)
            if isinstance(node, ast.Constant) and isinstance(node.value, str):
                self.assertNotIn("%", node.value, place)

    def test_the_top_of_a_file(self):
        for name, tree in trees():
            self.assertIsNotNone(ast.get_docstring(tree), name)
            for node in tree.body[1:]:
                self.assertIsInstance(node, (ast.ImportFrom, ast.FunctionDef, ast.ClassDef, ast.Assign), name)

    def test_classes_are_plain(self):
        for place, node in self.each_node():
            if isinstance(node, ast.ClassDef):
                self.assertLessEqual(len(node.bases), 1, place)
                self.assertEqual(node.keywords, [], place)
                for part in node.body:
                    plain = isinstance(part, (ast.FunctionDef, ast.Pass))
                    self.assertTrue(plain or part is node.body[0] and ast.get_docstring(node), place)


def called(node):
    """The name by which something is called; None for what is no call."""
    if not isinstance(node, ast.Call):
        return None
    return node.func.id if isinstance(node.func, ast.Name) else node.func.attr


def parents(tree):
    return {child: node for node in ast.walk(tree) for child in ast.iter_child_nodes(node)}


def walked_names(node):
    """The names of what a loop walks, itself or through enumerate, zip, reversed, items and their like."""
    if isinstance(node, ast.Name):
        return [node.id]
    if called(node) in ("enumerate", "zip", "reversed"):
        return [name for part in node.args for name in walked_names(part)]
    if called(node) in ("items", "keys", "values"):
        return walked_names(node.func.value)
    return []


def changed_names(nodes):
    """The names of what is changed in place somewhere below the nodes."""
    names = []
    for node in [below for node in nodes for below in ast.walk(node)]:
        if isinstance(node, ast.Subscript) and not isinstance(node.ctx, ast.Load):
            names.append(getattr(node.value, "id", None))
        if isinstance(node, ast.Call) and isinstance(node.func, ast.Attribute) and node.func.attr in CHANGES:
            names.append(getattr(node.func.value, "id", None))
        if isinstance(node, ast.AugAssign):
            names.append(getattr(node.target, "id", None))
    return names


class Calls(unittest.TestCase):

    def each_call(self):
        for name, tree in trees():
            above = parents(tree)
            for node in ast.walk(tree):
                if isinstance(node, ast.Call):
                    yield (name, node.lineno), node, above[node]

    def test_methods_are_those_of_the_list_or_own_ones(self):
        own = {part.name for _, tree in trees() for node in ast.walk(tree) if isinstance(node, ast.ClassDef)
               for part in node.body if isinstance(part, ast.FunctionDef)}
        for place, node, _ in self.each_call():
            self.assertIsInstance(node.func, (ast.Name, ast.Attribute), place)
            if isinstance(node.func, ast.Attribute):
                self.assertIn(node.func.attr, own | set(METHODS_OF_PYTHONS_OWN), place)

    def test_keywords(self):
        for place, node, _ in self.each_call():
            for keyword in node.keywords:
                self.assertIn(keyword.arg, KEYWORDS.get(called(node), ()), place)

    def test_what_stands_as_a_key(self):
        defined = {name for _, tree in trees() for name, node in bound_names(tree) if isinstance(node, ast.FunctionDef)}
        for place, node, _ in self.each_call():
            for keyword in node.keywords:
                if keyword.arg == "key" and not isinstance(keyword.value, ast.Lambda):
                    self.assertIn(getattr(keyword.value, "id", getattr(keyword.value, "attr", None)),
                                  defined | set(KEYS), place)
                if keyword.arg in ("reverse", "strict"):
                    self.assertIsInstance(keyword.value, ast.Constant, place)

    def test_methods_are_called_where_they_stand(self):
        own = {part.name for _, tree in trees() for node in ast.walk(tree) if isinstance(node, ast.ClassDef)
               for part in node.body if isinstance(part, ast.FunctionDef)}
        for name, tree in trees():
            above = parents(tree)
            for node in ast.walk(tree):
                if isinstance(node, ast.Attribute) and node.attr in own | set(METHODS_OF_PYTHONS_OWN):
                    keyed = isinstance(above[node], ast.keyword) and above[node].arg == "key"
                    called_here = isinstance(above[node], ast.Call) and above[node].func is node
                    self.assertTrue(keyed or called_here, (name, node.lineno))

    def test_classes_are_made_and_asked_for_alone(self):
        classes = {node.name for _, tree in trees() for node in tree.body if isinstance(node, ast.ClassDef)}
        for name, tree in trees():
            above = parents(tree)
            for node in ast.walk(tree):
                if isinstance(node, ast.Name) and node.id in classes:
                    made = isinstance(above[node], (ast.Call, ast.ClassDef, ast.ExceptHandler, ast.Raise))
                    base = isinstance(above[node], ast.Attribute) and above[node].attr == "__init__"
                    self.assertTrue(made or base, (name, node.lineno))

    def test_what_is_walked_at_once_is_not_kept(self):
        for place, node, above in self.each_call():
            if called(node) in WALKED_AT_ONCE:
                looped = isinstance(above, (ast.For, ast.comprehension)) and above.iter is node
                self.assertTrue(looped or called(above) in WALKERS, place)

    def test_sets_are_asked_on_the_spot(self):
        for place, node, above in self.each_call():
            self.assertNotEqual(called(node), "frozenset", place)
            if called(node) == "set":
                handed = called(above) in ("sorted", "len") and not above.keywords
                self.assertTrue(handed or isinstance(above, (ast.Compare, ast.BinOp)), place)

    def test_what_a_loop_walks_is_not_changed_in_it(self):
        for name, tree in trees():
            for node in ast.walk(tree):
                if isinstance(node, ast.For):
                    changed = set(walked_names(node.iter)) & set(changed_names(node.body))
                    self.assertEqual(changed, set(), (name, node.lineno))

    def test_lists_and_dicts_of_the_top_are_only_read(self):
        for name, tree in trees():
            kept = {node.targets[0].id for node in tree.body if isinstance(node, ast.Assign)
                    and isinstance(node.value, (ast.List, ast.Dict))}
            self.assertEqual(kept & set(changed_names(tree.body)), set(), name)
            for node in ast.walk(tree):
                if isinstance(node, (ast.Return, ast.Assign)) and isinstance(node.value, ast.Name):
                    self.assertNotIn(node.value.id, kept, (name, node.lineno))

    def test_one_lambda_with_the_same_parameters_on_a_line(self):
        for name, tree in trees():
            found = [(node.lineno, ast.unparse(node.args)) for node in ast.walk(tree) if isinstance(node, ast.Lambda)]
            self.assertEqual(len(found), len(set(found)), name)

    def test_only_own_errors_and_plain_ones_are_taken(self):
        own = {node.name for _, tree in trees() for node in tree.body if isinstance(node, ast.ClassDef)}
        for name, tree in trees():
            for node in ast.walk(tree):
                if isinstance(node, ast.ExceptHandler):
                    self.assertIsInstance(node.type, ast.Name, name)
                    self.assertIn(node.type.id, own | {"KeyError", "ZeroDivisionError", "StopIteration"}, name)


class Names(unittest.TestCase):

    def test_bound_names_are_plain(self):
        for file_name, tree in trees():
            for name, node in bound_names(tree):
                place = (file_name, node.lineno, name)
                if name not in METHODS_WITH_UNDERSCORES:
                    self.assertRegex(name, r"^[A-Za-z][A-Za-z0-9_]*$", place)
                self.assertNotIn(name, UNUSED, place)

    def test_no_name_of_pythons_own_is_bound(self):
        for file_name, tree in trees():
            for node in ast.walk(tree):
                if isinstance(node, ast.arg):
                    self.assertNotIn(node.arg, dir(builtins), file_name)
                if isinstance(node, ast.Name) and isinstance(node.ctx, ast.Store):
                    self.assertNotIn(node.id, dir(builtins), file_name)

    def test_each_name_is_bound_once_at_the_top(self):
        for file_name, tree in trees():
            names = top_names(tree) + imported_names(tree)
            self.assertEqual(sorted(names), sorted(set(names)), file_name)

    def test_no_parameter_or_local_hides_a_class_or_an_import(self):
        for file_name, tree in trees():
            classes = [node.name for node in tree.body if isinstance(node, ast.ClassDef)]
            top = [target for node in tree.body if isinstance(node, ast.Assign) for target in node.targets]
            for node in ast.walk(tree):
                if isinstance(node, ast.Name) and isinstance(node.ctx, ast.Store) and node not in top:
                    self.assertNotIn(node.id, classes + imported_names(tree), file_name)
                if isinstance(node, ast.arg):
                    self.assertNotIn(node.arg, classes + imported_names(tree), file_name)

    def test_only_some_of_pythons_own_names_are_used(self):
        for file_name, tree in trees():
            bound = [name for name, _ in bound_names(tree)] + imported_names(tree)
            for node in ast.walk(tree):
                if isinstance(node, ast.Name) and isinstance(node.ctx, ast.Load):
                    place = (file_name, node.lineno, node.id)
                    self.assertIn(node.id, bound + OWN_NAMES, place)
                    self.assertNotIn(node.id, UNUSED + UNUSED_NAMES, place)
                if isinstance(node, ast.Attribute):
                    self.assertNotIn(node.attr, UNUSED, (file_name, node.lineno))

    def test_no_name_is_a_method_here_and_a_value_there(self):
        methods, values = set(), set()
        for _, tree in trees():
            for node in ast.walk(tree):
                if isinstance(node, ast.ClassDef):
                    methods |= {part.name for part in node.body if isinstance(part, ast.FunctionDef)}
                if isinstance(node, ast.Attribute) and isinstance(node.ctx, ast.Store):
                    values.add(node.attr)
        self.assertEqual(methods & values, set())


if __name__ == "__main__":
    unittest.main()
