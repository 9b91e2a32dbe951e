"""The form of the package's files: the part of Python that they keep to, as far as it is plain to see."""

import ast
import builtins
import os
import re
import unittest

import quickchange

FOLDER = os.path.dirname(os.path.abspath(quickchange.__file__))

BUILT_IN = set(
    "len range enumerate zip min max sum abs sorted reversed int str bool list tuple dict set frozenset isinstance"
    " ord repr any all divmod Exception ValueError TypeError KeyError IndexError LookupError ZeroDivisionError"
    " ArithmeticError OverflowError RuntimeError NotImplementedError AttributeError StopIteration".split()
)
METHODS = set(
    "append clear copy count endswith extend find get index insert isalnum isalpha isdigit islower isspace isupper"
    " items join keys ljust lower lstrip partition pop remove replace reverse rfind rjust rpartition rsplit rstrip"
    " setdefault split splitlines startswith strip update upper values zfill bit_length".split()
)
DUNDERS = {"__init__", "__eq__", "__repr__", "__str__", "__len__"}
WORDS = re.compile(
    r"\b(type|typing|typing_extensions|enum|Enum|IntEnum|StrEnum|Flag|IntFlag|Generic|Protocol|ABC|ABCMeta"
    r"|namedtuple|NamedTuple|TypedDict|TYPE_CHECKING|abstractmethod)\b|dataclass|overload|contextmanager"
)
NOT_NAMES = set(
    "register mro elements open input version_info with_traceback add_note attrgetter breakpoint builtins compile"
    " copyright credits delattr dir eval exec exit gc getattr globals hasattr help id importlib license locals"
    " methodcaller os quit setattr super type vars sys chr print format format_map".split()
)
WALKED = {"zip", "enumerate", "reversed", "range", "items", "keys", "values"}
WALKERS = {"list", "tuple", "dict", "sorted", "sum", "any", "all", "enumerate", "zip"}
UNUSED_NODES = (
    ast.With, ast.Delete, ast.Global, ast.Nonlocal, ast.Assert, ast.Yield, ast.YieldFrom, ast.Await, ast.Match,
    ast.AsyncFunctionDef, ast.AsyncFor, ast.AsyncWith, ast.SetComp, ast.DictComp, ast.GeneratorExp, ast.NamedExpr,
    ast.Starred, ast.Div, ast.Import, ast.AnnAssign,
)


def sources():
    """The text of each of the package's files."""
    found = {}
    for name in sorted(os.listdir(FOLDER)):
        if name != "__pycache__":
            with open(os.path.join(FOLDER, name), encoding="utf-8", newline="") as file:
                found[name] = file.read()
    return found


def nodes():
    """Each node of each file, with a text that says where it stands."""
    for name, text in sources().items():
        for node in ast.walk(ast.parse(text)):
            yield f"{name}:{getattr(node, 'lineno', 0)}", node


def nodes_with_parents():
    """Each node of each file with where it stands and the node that it stands in."""
    for where, node in nodes():
        for part in ast.iter_child_nodes(node):
            yield where, part, node


def called(node):
    """The name by which a node calls something, or None."""
    if not isinstance(node, ast.Call):
        return None
    return node.func.id if isinstance(node.func, ast.Name) else getattr(node.func, "attr", None)


def drawn_from():
    """For each file the package's files that it draws names from, and the names."""
    return {
        name[:-3]: {
            node.module.partition(".")[2]: [alias.name for alias in node.names]
            for node in ast.parse(text).body if isinstance(node, ast.ImportFrom)
        }
        for name, text in sources().items()
    }


def bound_at_top(tree):
    """The names that a file binds at its top, apart from those that it draws from others."""
    names = [node.name for node in tree.body if isinstance(node, (ast.FunctionDef, ast.ClassDef))]
    return names + [target.id for node in tree.body if isinstance(node, ast.Assign) for target in node.targets]


def own_methods():
    """The names of all methods of the package's classes."""
    return {
        part.name
        for where, node in nodes() if isinstance(node, ast.ClassDef)
        for part in node.body if isinstance(part, ast.FunctionDef)
    }


class Texts(unittest.TestCase):
    def test_names_of_files(self):
        for name in sources():
            self.assertRegex(name, r"^[a-z0-9_]+\.py$")

    def test_signs_and_sizes(self):
        for name, text in sources().items():
            self.assertRegex(text, r"\A[ -~\n]*\Z", name)
            self.assertLessEqual(len(text.splitlines()), 400, name)
            for line in text.splitlines():
                self.assertLessEqual(len(line), 120, f"{name}: {line}")

    def test_words(self):
        for name, text in sources().items():
            self.assertIsNone(WORDS.search(text), name)

    def test_functions_are_short(self):
        for where, node in nodes():
            if isinstance(node, ast.FunctionDef):
                self.assertLessEqual(node.end_lineno - node.lineno + 1, 40, where)


class Nodes(unittest.TestCase):
    def test_what_is_not_used(self):
        for where, node in nodes():
            self.assertNotIsInstance(node, UNUSED_NODES, where)
            if isinstance(node, (ast.For, ast.While)):
                self.assertEqual(node.orelse, [], where)
            if isinstance(node, ast.Try):
                self.assertEqual(node.finalbody, [], where)
            if isinstance(node, ast.Assign):
                self.assertEqual(len(node.targets), 1, where)
            if isinstance(node, ast.ListComp):
                self.assertEqual(len(node.generators), 1, where)
                self.assertLessEqual(len(node.generators[0].ifs), 1, where)

    def test_values(self):
        for where, node in nodes():
            if isinstance(node, ast.Constant):
                self.assertIsInstance(node.value, (int, str, bool, None.__class__), where)
                self.assertNotIn("%", str(node.value), where)

    def test_names_are_bound_once_at_the_top(self):
        for name, text in sources().items():
            tree = ast.parse(text)
            names = bound_at_top(tree)
            for node in tree.body:
                if isinstance(node, ast.ImportFrom):
                    names += [alias.asname or alias.name for alias in node.names]
            self.assertEqual(len(names), len(set(names)), name)

    def test_plain_values_at_the_top(self):
        for name, text in sources().items():
            for node in ast.parse(text).body:
                if isinstance(node, ast.Assign):
                    value = ast.literal_eval(node.value)
                    parts = list(value.values()) if isinstance(value, dict) else value
                    if isinstance(value, (list, dict)):
                        self.assertFalse([part for part in parts if isinstance(part, (list, dict))], name)

    def test_lists_and_dicts_of_the_top_are_only_read(self):
        kept = {
            node.targets[0].id
            for name, text in sources().items() for node in ast.parse(text).body
            if isinstance(node, ast.Assign) and isinstance(node.value, (ast.List, ast.Dict))
        }
        for where, node, parent in nodes_with_parents():
            if isinstance(node, ast.Name) and node.id in kept and isinstance(node.ctx, ast.Load):
                indexed = isinstance(parent, ast.Subscript) and isinstance(parent.ctx, ast.Load)
                asked = isinstance(parent, ast.Compare) or called(parent) in ("len", "list", "dict", "sorted", "tuple")
                walked = isinstance(parent, (ast.For, ast.comprehension))
                self.assertTrue(indexed or asked or walked, where)

    def test_f_strings_hold_names_alone(self):
        for where, node in nodes():
            if isinstance(node, ast.FormattedValue):
                self.assertIsInstance(node.value, ast.Name, where)
                self.assertIsNone(node.format_spec, where)

    def test_is_beside_none_and_truths_alone(self):
        for where, node in nodes():
            if isinstance(node, ast.Compare) and isinstance(node.ops[0], (ast.Is, ast.IsNot)):
                self.assertIn(ast.unparse(node.comparators[0]), ("None", "True", "False"), where)

    def test_imports(self):
        for where, node in nodes():
            if isinstance(node, ast.ImportFrom):
                self.assertEqual((node.level, node.module.split(".")[0]), (0, "quickchange"), where)

    def test_names_are_drawn_from_the_file_that_defines_them(self):
        defined = {name[:-3]: bound_at_top(ast.parse(text)) for name, text in sources().items()}
        for name, drawn in drawn_from().items():
            for source, names in drawn.items():
                for wanted in names:
                    self.assertIn(wanted, defined[source], name)

    def test_no_two_files_draw_from_one_another(self):
        drawn = drawn_from()
        settled = set()
        while len(settled) < len(drawn):
            ready = [name for name in drawn if name not in settled and set(drawn[name]) <= settled]
            self.assertNotEqual(ready, [], sorted(set(drawn) - settled))
            settled.update(ready)

    def test_walked_on_the_spot(self):
        for where, node, parent in nodes_with_parents():
            if called(node) in WALKED:
                walks = isinstance(parent, (ast.For, ast.comprehension)) and parent.iter is node
                first = called(parent) in WALKERS and parent.args[0] is node
                alone = called(parent) in ("min", "max") and parent.args == [node] and not parent.keywords
                self.assertTrue(walks or first or alone or called(parent) == "join", where)

    def test_sets_are_not_kept(self):
        for where, node, parent in nodes_with_parents():
            self.assertNotIsInstance(node, ast.Set, where)
            if called(node) == "set":
                within = isinstance(parent, (ast.Compare, ast.BinOp)) or called(parent) in ("sorted", "len")
                self.assertTrue(within, where)

    def test_functions_and_classes_are_plain(self):
        for where, node in nodes():
            if isinstance(node, (ast.FunctionDef, ast.ClassDef)):
                self.assertEqual(node.decorator_list, [], where)
            if isinstance(node, ast.FunctionDef):
                told = node.args
                self.assertFalse(told.vararg or told.kwarg or told.kwonlyargs or told.posonlyargs, where)
            if isinstance(node, ast.ClassDef):
                self.assertLessEqual(len(node.bases), 1, where)


class Names(unittest.TestCase):
    def test_no_other_built_in_name(self):
        others = set(dir(builtins)) - BUILT_IN
        for where, node in nodes():
            if isinstance(node, ast.Name):
                self.assertNotIn(node.id, others, where)

    def test_no_built_in_name_is_given_another_meaning(self):
        for where, node in nodes():
            bound = None
            if isinstance(node, ast.Name) and isinstance(node.ctx, ast.Store):
                bound = node.id
            if isinstance(node, ast.arg):
                bound = node.arg
            if bound is not None:
                self.assertFalse(hasattr(builtins, bound), where)
                self.assertRegex(bound, r"^[A-Za-z]", where)

    def test_names_that_are_not_used(self):
        for where, node in nodes():
            if isinstance(node, ast.Name):
                self.assertNotIn(node.id, NOT_NAMES, where)

    def test_no_local_is_called_like_a_class_or_an_import_of_its_file(self):
        for name, text in sources().items():
            tree = ast.parse(text)
            taken = {node.name for node in tree.body if isinstance(node, ast.ClassDef)}
            for node in tree.body:
                if isinstance(node, ast.ImportFrom):
                    taken.update(alias.asname or alias.name for alias in node.names)
            for node in ast.walk(tree):
                if isinstance(node, ast.Name) and isinstance(node.ctx, ast.Store):
                    self.assertNotIn(node.id, taken, f"{name}:{node.lineno}")
                if isinstance(node, ast.arg):
                    self.assertNotIn(node.arg, taken, f"{name}:{node.lineno}")

    def test_names_of_functions_and_classes(self):
        for where, node in nodes():
            if isinstance(node, (ast.FunctionDef, ast.ClassDef)) and node.name not in DUNDERS:
                self.assertRegex(node.name, r"^[A-Za-z]", where)

    def test_methods_are_known(self):
        known = METHODS | own_methods()
        for where, node in nodes():
            if isinstance(node, ast.Call) and isinstance(node.func, ast.Attribute):
                self.assertIn(node.func.attr, known, where)

    def test_no_name_is_a_method_and_a_value(self):
        methods = own_methods()
        for where, node in nodes():
            if isinstance(node, ast.Attribute) and isinstance(node.ctx, ast.Store):
                self.assertNotIn(node.attr, methods, where)


if __name__ == "__main__":
    unittest.main()
