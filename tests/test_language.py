"""Holds the package to those rules of its language that can be seen in one file by itself."""

import ast
import builtins
import pathlib
import re
import unittest

PACKAGE = pathlib.Path(__file__).resolve().parent.parent / "putback"

NODES = """
Module Expr Import ImportFrom alias FunctionDef arguments arg ClassDef Lambda
Assign AugAssign If While For Return Break Continue Pass Raise Try ExceptHandler Call keyword
Constant JoinedStr FormattedValue List Tuple Dict Set ListComp comprehension IfExp
Name Attribute Subscript Slice Load Store BinOp UnaryOp BoolOp Compare
Add Sub Mult FloorDiv Mod Pow BitAnd BitOr BitXor LShift RShift Invert USub UAdd Not And Or
Eq NotEq Lt LtE Gt GtE In NotIn Is IsNot
""".split()

OWN_OF_PYTHON = """
len range enumerate zip min max sum abs sorted reversed int str bool list tuple dict set frozenset isinstance ord repr
any all divmod Exception ValueError TypeError KeyError IndexError LookupError ZeroDivisionError ArithmeticError
OverflowError RuntimeError NotImplementedError StopIteration AttributeError
""".split()

METHODS = """
append clear copy count endswith extend find get index insert isalnum isalpha isdigit islower isspace isupper items
join keys ljust lower lstrip partition pop remove replace reverse rfind rjust rpartition rsplit rstrip setdefault split
splitlines startswith strip update upper values zfill bit_length
""".split()

EVERY_NAME_OF_PYTHON = [name for name in dir(builtins) if not name.startswith("_")]

WALKED = ["zip", "enumerate", "reversed", "range", "items", "keys", "values"]

WALKERS = ["list", "tuple", "dict", "sorted", "sum", "any", "all", "enumerate", "zip"]

DUNDERS = ["__init__", "__eq__", "__repr__", "__str__", "__len__"]

WORDS_NOWHERE = re.compile(
    r"\b(type|typing|typing_extensions|enum|Enum|IntEnum|StrEnum|Flag|IntFlag|Generic|Protocol|ABC|ABCMeta|namedtuple"
    r"|NamedTuple|TypedDict|TYPE_CHECKING|abstractmethod)\b|dataclass|overload|contextmanager"
)

NAMES_NOWHERE = """
register mro elements open input version_info with_traceback add_note attrgetter breakpoint compile delattr dir eval
exec exit getattr globals hasattr help id importlib locals methodcaller os quit setattr super sys vars builtins gc
format format_map chr
""".split()


def sources():
    return sorted(PACKAGE.glob("*.py"))


def trees():
    return [(path.name, ast.parse(path.read_text())) for path in sources()]


def nodes():
    return [(f"{name}:{getattr(node, 'lineno', 0)}", node) for name, tree in trees() for node in ast.walk(tree)]


def bound_names(node):
    if isinstance(node, ast.Name) and isinstance(node.ctx, ast.Store):
        return [node.id]
    if isinstance(node, ast.Attribute) and isinstance(node.ctx, ast.Store):
        return [node.attr]
    if isinstance(node, (ast.FunctionDef, ast.ClassDef)):
        return [node.name]
    if isinstance(node, ast.arg):
        return [node.arg]
    if isinstance(node, ast.ExceptHandler) and node.name:
        return [node.name]
    return []


def called(node):
    if isinstance(node.func, ast.Name):
        return node.func.id
    return node.func.attr if isinstance(node.func, ast.Attribute) else ""


def walked_on_the_spot(tree):
    spots = []
    for node in ast.walk(tree):
        if isinstance(node, (ast.For, ast.comprehension)):
            spots.append(node.iter)
        if isinstance(node, ast.Call) and called(node) in WALKERS + ["join"]:
            spots.extend(node.args[:1])
        if isinstance(node, ast.Call) and called(node) in ["min", "max"] and len(node.args) == 1:
            spots.extend(node.args)
    return spots


def parts_of_a_set(node):
    if isinstance(node, ast.BinOp):
        return parts_of_a_set(node.left) + parts_of_a_set(node.right)
    return [node]


def is_plain_value(node, functions):
    """A plain value, or one made of plain values and of functions that are defined above."""
    if isinstance(node, (ast.List, ast.Tuple)):
        return all(is_plain_value(part, functions) for part in node.elts)
    if isinstance(node, ast.Dict):
        return all(is_plain_value(part, functions) for part in node.keys + node.values)
    return isinstance(node, ast.Constant) or isinstance(node, ast.Name) and node.id in functions


def kept_at_the_top(tree):
    """The names of a file's top that are given a list or a dict."""
    return [node.targets[0].id for node in tree.body if isinstance(node, ast.Assign)
            and isinstance(node.value, (ast.List, ast.Dict))]


def only_read(tree):
    """The spots in which a list or dict of the top is read, copied or walked."""
    spots = []
    for node in ast.walk(tree):
        if isinstance(node, ast.Subscript) and isinstance(node.ctx, ast.Load):
            spots.append(node.value)
        if isinstance(node, ast.Compare):
            spots.extend(node.comparators)
        if isinstance(node, (ast.For, ast.comprehension)):
            spots.append(node.iter)
        if isinstance(node, ast.Call) and called(node) in ["len", "list", "dict", "tuple", "sorted"]:
            spots.extend(node.args[:1])
    return spots


def imports_of(tree):
    return [node for node in tree.body if isinstance(node, ast.ImportFrom)]


def module_file(node):
    return node.module.partition(".")[2] + ".py"


def spots_of_classes(tree):
    """Where a class may stand: called, as a base, by isinstance, by except."""
    spots = []
    for node in ast.walk(tree):
        if isinstance(node, ast.ClassDef):
            spots.extend(node.bases)
        if isinstance(node, ast.ExceptHandler):
            spots.append(node.type)
        if isinstance(node, ast.Call):
            spots.append(node.func)
        if isinstance(node, ast.Call) and called(node) == "isinstance":
            spots.extend(node.args[1].elts if isinstance(node.args[1], ast.Tuple) else node.args[1:])
    return spots


class LanguageTest(unittest.TestCase):
    def test_files(self):
        for path in PACKAGE.iterdir():
            if path.name != "__pycache__":
                self.assertRegex(path.name, r"^([a-z][a-z0-9_]*|__init__|__main__)\.py$")
                self.assertNotIn(path.stem, EVERY_NAME_OF_PYTHON)

    def test_size_and_signs(self):
        for path in sources():
            lines = path.read_text().split("\n")
            self.assertLessEqual(len(lines), 400, path.name)
            for number, line in enumerate(lines, start=1):
                self.assertRegex(line, r"^[ -~]{0,120}$", f"{path.name}:{number}")
                self.assertIsNone(WORDS_NOWHERE.search(line), f"{path.name}:{number}")

    def test_the_forms_of_code(self):
        for place, node in nodes():
            self.assertIn(node.__class__.__name__, NODES, place)
            if isinstance(node, ast.Assign):
                self.assertEqual(len(node.targets), 1, place)
            if isinstance(node, (ast.For, ast.While)):
                self.assertEqual(node.orelse, [], place)
            if isinstance(node, ast.Try):
                self.assertEqual(node.finalbody, [], place)
            if isinstance(node, ast.Constant):
                self.assertIsInstance(node.value, (int, str, bool, type(None)), place)
            if isinstance(node, ast.ListComp):
                self.assertLessEqual(len(node.generators) + len(node.generators[0].ifs), 2, place)

    def test_the_top_of_a_file(self):
        for name, tree in trees():
            self.assertIsNotNone(ast.get_docstring(tree), name)
            bound = []
            for node in tree.body[1:]:
                place = f"{name}:{node.lineno}"
                self.assertIsInstance(node, (ast.ImportFrom, ast.FunctionDef, ast.ClassDef, ast.Assign), place)
                if isinstance(node, ast.Assign):
                    self.assertIsInstance(node.targets[0], ast.Name, place)
                    above = [part.name for part in tree.body if isinstance(part, ast.FunctionDef) and part.lineno < node.lineno]
                    self.assertTrue(is_plain_value(node.value, above), place)
                    for part in list(ast.walk(node.value))[1:]:
                        self.assertNotIsInstance(part, (ast.List, ast.Dict), place)
                    bound.append(node.targets[0].id)
                if isinstance(node, (ast.FunctionDef, ast.ClassDef)):
                    bound.append(node.name)
            bound += [alias.name for node in imports_of(tree) for alias in node.names]
            self.assertEqual(len(bound), len(set(bound)), name)

    def test_lists_and_dicts_of_the_top_are_only_read(self):
        for name, tree in trees():
            kept, spots = kept_at_the_top(tree), only_read(tree)
            for node in ast.walk(tree):
                if isinstance(node, ast.Name) and isinstance(node.ctx, ast.Load) and node.id in kept:
                    self.assertIn(node, spots, f"{name}:{node.lineno}")

    def test_a_class_stands_at_a_files_top_with_each_method_once(self):
        for name, tree in trees():
            for node in ast.walk(tree):
                if isinstance(node, ast.ClassDef):
                    self.assertIn(node, tree.body, name)
                    methods = [part.name for part in node.body if isinstance(part, ast.FunctionDef)]
                    self.assertEqual(len(methods), len(set(methods)), f"{name}:{node.lineno}")

    def test_what_is_made_and_raised(self):
        for place, node in nodes():
            if isinstance(node, ast.Raise):
                self.assertIsInstance(node.exc, ast.Call, place)
            if isinstance(node, ast.FunctionDef) and node.name == "__init__":
                self.assertFalse(any(isinstance(part, ast.Return) for part in ast.walk(node)), place)
            if isinstance(node, ast.Call) and node.keywords:
                self.assertIn(called(node), ["sorted", "min", "max", "sum", "enumerate", "zip"], place)

    def test_escapes(self):
        for path in sources():
            self.assertNotRegex(path.read_text(), r"""\\[^nt\\'"]""", path.name)

    def test_functions_and_classes(self):
        for place, node in nodes():
            if isinstance(node, ast.FunctionDef):
                self.assertLessEqual(node.end_lineno - node.lineno + 1, 40, place)
                self.assertEqual(node.decorator_list, [], place)
                given = node.args
                self.assertEqual([given.vararg, given.kwarg, given.kwonlyargs, given.posonlyargs], [None, None, [], []])
            if isinstance(node, ast.ClassDef):
                self.assertLessEqual(len(node.bases), 1, place)
                self.assertEqual(node.decorator_list + node.keywords, [], place)
                for part in node.body:
                    self.assertIsInstance(part, (ast.FunctionDef, ast.Pass), place)

    def test_imports(self):
        for place, node in nodes():
            self.assertNotIsInstance(node, ast.Import, place)
            if isinstance(node, ast.ImportFrom):
                self.assertEqual(node.level, 0, place)
                self.assertRegex(node.module, r"^putback\.[a-z]+$", place)

    def test_imports_come_from_the_file_that_defines_the_name(self):
        all_trees = dict(trees())
        for name, tree in all_trees.items():
            for node in imports_of(tree):
                defined = [part.name for part in all_trees[module_file(node)].body if hasattr(part, "name")]
                for alias in node.names:
                    self.assertIn(alias.name, defined, name)
                    self.assertIsNone(alias.asname, name)

    def test_no_two_files_draw_from_one_another(self):
        draws = {name: [module_file(node) for node in imports_of(tree)] for name, tree in trees()}
        while draws:
            free = [name for name, drawn in draws.items() if not any(other in draws for other in drawn)]
            self.assertNotEqual(free, [], draws)
            draws = {name: drawn for name, drawn in draws.items() if name not in free}

    def test_no_parameter_and_no_local_is_called_like_a_class_or_an_import(self):
        for name, tree in trees():
            taken = [alias.name for node in imports_of(tree) for alias in node.names]
            taken += [node.name for node in tree.body if isinstance(node, ast.ClassDef)]
            for node in ast.walk(tree):
                if isinstance(node, (ast.Name, ast.arg)):
                    for bound in bound_names(node):
                        self.assertNotIn(bound, taken, f"{name}:{node.lineno}")

    def test_no_name_is_a_method_here_and_a_value_there(self):
        methods = []
        stored = []
        for place, node in nodes():
            if isinstance(node, ast.ClassDef):
                methods.extend([part.name for part in node.body if isinstance(part, ast.FunctionDef)])
            if isinstance(node, ast.Attribute) and isinstance(node.ctx, ast.Store):
                stored.append(node.attr)
        self.assertEqual(set(methods) & set(stored), set())

    def test_classes_are_neither_kept_nor_handed_on(self):
        classes = [node.name for name, tree in trees() for node in tree.body if isinstance(node, ast.ClassDef)]
        for name, tree in trees():
            spots = spots_of_classes(tree)
            for node in ast.walk(tree):
                if isinstance(node, ast.Name) and node.id in classes:
                    self.assertIn(node, spots, f"{name}:{node.lineno}")

    def test_methods_are_called_where_they_stand(self):
        own = [part.name for name, tree in trees() for node in tree.body if isinstance(node, ast.ClassDef)
               for part in node.body if isinstance(part, ast.FunctionDef)]
        for name, tree in trees():
            calls = [node.func for node in ast.walk(tree) if isinstance(node, ast.Call)]
            for node in ast.walk(tree):
                if isinstance(node, ast.Attribute) and isinstance(node.ctx, ast.Load) and node.attr in METHODS + own:
                    self.assertIn(node, calls, f"{name}:{node.lineno}")

    def test_what_is_imported_is_used(self):
        for name, tree in trees():
            used = [node.id for node in ast.walk(tree) if isinstance(node, ast.Name)]
            for node in imports_of(tree):
                for alias in node.names:
                    self.assertIn(alias.name, used, name)

    def test_annotations(self):
        for place, node in nodes():
            if isinstance(node, ast.FunctionDef):
                self.assertIsNone(node.returns, place)
            if isinstance(node, ast.arg):
                self.assertIsNone(node.annotation, place)

    def test_handlers_name_refusals_of_the_program(self):
        errors = [node.name for node in dict(trees())["errors.py"].body if isinstance(node, ast.ClassDef)]
        for place, node in nodes():
            if isinstance(node, ast.ExceptHandler):
                self.assertIsInstance(node.type, ast.Name, place)
                self.assertIn(node.type.id, errors + ["KeyError"], place)

    def test_walked_at_once(self):
        for name, tree in trees():
            spots = walked_on_the_spot(tree)
            for node in ast.walk(tree):
                if isinstance(node, ast.Call) and called(node) in WALKED:
                    self.assertIn(node, spots, f"{name}:{node.lineno}")

    def test_sets_are_neither_kept_nor_walked(self):
        for name, tree in trees():
            spots = []
            for node in ast.walk(tree):
                if isinstance(node, ast.Call) and called(node) in ["len", "sorted"]:
                    spots.extend(parts_of_a_set(node.args[0]))
                if isinstance(node, ast.Compare):
                    spots.extend([node.left] + node.comparators)
            for node in ast.walk(tree):
                if isinstance(node, ast.Call) and called(node) in ["set", "frozenset"]:
                    self.assertIn(node, spots, f"{name}:{node.lineno}")
                self.assertNotIsInstance(node, ast.Set, name)

    def test_names(self):
        for place, node in nodes():
            for name in bound_names(node):
                if name not in DUNDERS:
                    self.assertRegex(name, r"^[A-Za-z][A-Za-z0-9_]*$", place)
                self.assertNotIn(name, NAMES_NOWHERE, place)
                self.assertNotIn(name, EVERY_NAME_OF_PYTHON, place)
            if isinstance(node, ast.Name) and node.id in EVERY_NAME_OF_PYTHON:
                self.assertIn(node.id, OWN_OF_PYTHON, place)

    def test_attributes(self):
        own = [name for place, node in nodes() for name in bound_names(node)]
        for place, node in nodes():
            if isinstance(node, ast.Attribute):
                self.assertNotIn(node.attr, NAMES_NOWHERE, place)
                if isinstance(node.ctx, ast.Load):
                    self.assertIn(node.attr, METHODS + DUNDERS + own, place)

    def test_is_stands_beside_none_true_false(self):
        for place, node in nodes():
            if isinstance(node, ast.Compare) and any(isinstance(op, (ast.Is, ast.IsNot)) for op in node.ops):
                self.assertIsInstance(node.comparators[0], ast.Constant, place)

    def test_texts(self):
        for place, node in nodes():
            if isinstance(node, ast.Constant) and isinstance(node.value, str):
                self.assertNotIn("%", node.value, place)


if __name__ == "__main__":
    unittest.main()
