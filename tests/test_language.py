"""Tests that the package keeps to the rules of its language that can be read off the code, and to its interface."""

import ast
import builtins
import unittest
from importlib import import_module
from inspect import signature
from pathlib import Path

PACKAGE = Path(__file__).resolve().parent.parent / "safepatch"
LIBRARY = {
    "heapq": {"heappush", "heappop", "heapify", "heapreplace", "heappushpop"},
    "math": {"gcd", "lcm", "isqrt", "comb", "perm", "factorial"},
    "itertools": {
        "product", "combinations", "permutations", "chain", "accumulate", "pairwise", "islice", "zip_longest",
    },
    "collections": {"defaultdict"},
}
BUILTINS = set(
    "len range enumerate zip min max sum abs sorted reversed int str bool list tuple dict set isinstance ord repr"
    " any all divmod pow property ValueError KeyError ZeroDivisionError iter next map super".split()
)
BARRED = set(
    "register mro elements open input law version_info with_traceback add_note eval exec globals locals vars dir id"
    " type typing enum dataclass namedtuple abstractmethod".split()
)
# A doctest that has run before puts `_` among the builtins.
ALL_BUILTINS = set(dir(builtins)) - {"_"}
# The methods of builtin values that the package may call.
METHODS = set(
    "append clear copy count endswith extend find get index insert isalnum isalpha isdigit islower isspace isupper items"
    " join keys ljust lower lstrip partition pop remove replace reverse rfind rjust rpartition rsplit rstrip setdefault"
    " split splitlines startswith strip update upper values zfill bit_length".split()
)
NODES_BARRED = (ast.AsyncFunctionDef, ast.Await, ast.Global, ast.Import, ast.Div, ast.AsyncFor, ast.AsyncWith)
# What the interface lists for each file: functions, and classes with their properties and methods.
INTERFACE = {
    "errors": {
        "PatchError": [], "BadFile": ["__init__"], "BadWrite": [], "BadGoal": [], "BadWrites": ["__init__"],
        "NoChange": [], "TooLarge": [], "BadTexts": ["__init__"], "BadLayout": [], "BadEdit": [],
        "NothingDone": [], "BadText": ["__init__"],
    },
    "files": {
        "File": [
            "__init__", "letters", "pieces", "order", "piece_price", "order_price", "torn", "text", "used", "spare",
            "__len__", "__eq__",
        ],
    },
    "writes": {
        name: None
        for name in "all_writes is_write after torn_texts is_safe safe_writes apply cost_of".split()
    },
    "plans": {
        "Plan": ["__init__", "__eq__", "shows"], "NoPlan": ["__init__", "__eq__", "shows"], "plan": None,
        "least_cost": None, "can_change": None, "musts": None, "is_change": None,
    },
    "tours": {
        "Tour": ["__init__", "__eq__", "shows"], "NoTour": ["__init__", "__eq__", "shows"], "tour": None,
        "tour_cost": None, "alone": None,
    },
    "tidying": {
        "Tidying": ["__init__", "__eq__", "shows"], "NoTidying": ["__init__", "__eq__", "shows"], "tidy": None,
        "tidy_cost": None, "orders_of_text": None,
    },
    "crashes": {name: None for name in "crashes forward backward worst".split()},
    "spares": {name: None for name in "spare_costs fewest_spares best_spares".split()},
    "sessions": {
        "Session": ["__init__", "current", "aim", "journal", "__len__", "edit", "undo", "branch", "trial", "tried"],
    },
    "texts": {"file_text": None, "read_file": None, "writes_text": None, "read_writes": None},
}
# The arguments that the interface lists, without the object itself.
ARGUMENTS = {
    "files": ["File letters pieces order piece_price order_price torn", "File.used", "File.spare"],
    "writes": [
        "all_writes file", "is_write file value", "after file write", "torn_texts file write", "is_safe file write text",
        "safe_writes file text", "apply file writes", "cost_of file writes",
    ],
    "plans": [
        "plan file text", "least_cost file text", "can_change file text", "Plan writes floors", "NoPlan states",
        "Plan.shows file text", "NoPlan.shows file text", "musts file text", "is_change file text writes",
    ],
    "tours": [
        "tour file texts", "tour_cost file texts", "Tour parts floors", "NoTour spots", "Tour.shows file texts",
        "NoTour.shows file texts", "alone file texts",
    ],
    "tidying": [
        "tidy file layout", "tidy_cost file layout", "Tidying writes floors", "NoTidying states",
        "Tidying.shows file layout", "NoTidying.shows file layout", "orders_of_text file",
    ],
    "crashes": [f"{name} file text writes" for name in "crashes forward backward worst".split()],
    "spares": [f"{name} file text" for name in "spare_costs fewest_spares best_spares".split()],
    "sessions": [
        "Session file", "Session.edit edit", "Session.undo", "Session.branch", "Session.trial", "Session.tried edits",
    ],
    "texts": ["file_text file", "read_file lines", "writes_text file writes", "read_writes file lines"],
}


def sources():
    """Return the path and the text of each file of the package."""
    return [(path, path.read_text(encoding="utf-8")) for path in sorted(PACKAGE.rglob("*.py"))]


def nodes():
    """Return the name of the file and the node, for all nodes of all files."""
    return [(path.name, node) for path, source in sources() for node in ast.walk(ast.parse(source))]


def functions():
    """Return the name of the file and the node, for all functions and methods."""
    return [(name, node) for name, node in nodes() if isinstance(node, ast.FunctionDef)]


def bound_names(node):
    """Return the names that a node binds, in any way."""
    if isinstance(node, ast.Name):
        return [node.id] if isinstance(node.ctx, ast.Store) else []
    if isinstance(node, ast.arg):
        return [node.arg]
    if isinstance(node, (ast.FunctionDef, ast.ClassDef)):
        return [node.name]
    if isinstance(node, ast.alias):
        return [node.asname or node.name]
    return []


class FilesTest(unittest.TestCase):
    def test_the_folder_holds_nothing_else(self):
        found = [path for path in PACKAGE.rglob("*") if "__pycache__" not in path.parts]
        self.assertEqual([path for path in found if path.is_file() and path.suffix != ".py"], [])
        for folder in [PACKAGE] + [path for path in found if path.is_dir()]:
            self.assertTrue((folder / "__init__.py").is_file())

    def test_sizes_and_characters(self):
        for path, source in sources():
            lines = source.split("\n")
            self.assertLessEqual(len(lines) - 1, 399, path)
            for row, line in enumerate(lines, 1):
                self.assertLessEqual(len(line), 120, (path, row))
                self.assertTrue(all(" " <= letter <= "~" for letter in line), (path, row))

    def test_functions_have_at_most_forty_lines(self):
        for name, node in functions():
            self.assertLessEqual(node.end_lineno - node.lineno + 1, 40, (name, node.name))


class NamesTest(unittest.TestCase):
    def test_imports(self):
        for name, node in nodes():
            if isinstance(node, ast.ImportFrom):
                with self.subTest(file=name, line=node.lineno):
                    self.assertEqual(node.level, 0)
                    self.assertTrue(all(item.asname is None for item in node.names))
                    if node.module in LIBRARY:
                        self.assertLessEqual({item.name for item in node.names}, LIBRARY[node.module])
                    else:
                        self.assertTrue(node.module.startswith("safepatch."))

    def test_only_the_builtins_of_the_language(self):
        for name, node in nodes():
            if isinstance(node, ast.Name) and node.id in ALL_BUILTINS:
                self.assertIn(node.id, BUILTINS, (name, node.lineno))

    def test_names_that_are_bound(self):
        for name, node in nodes():
            for bound in [word for word in bound_names(node) if not word.startswith("__")]:
                with self.subTest(file=name, name=bound):
                    self.assertNotIn(bound, ALL_BUILTINS)
                    self.assertNotIn(bound, BARRED)

    def test_no_variable_has_the_name_of_an_import_or_a_class(self):
        for path, source in sources():
            tree = ast.parse(source)
            taken = [name for node in ast.walk(tree) if isinstance(node, (ast.alias, ast.ClassDef))
                     for name in bound_names(node)]
            found = [name for node in ast.walk(tree) if isinstance(node, (ast.Name, ast.arg, ast.FunctionDef))
                     for name in bound_names(node)]
            self.assertEqual(set(taken) & set(found), set(), path)
            self.assertEqual(len(taken), len(set(taken)), path)

    def test_no_percent_sign_in_a_string(self):
        for name, node in nodes():
            if isinstance(node, ast.Constant) and isinstance(node.value, str):
                self.assertNotIn("%", node.value, (name, node.lineno))


class StatementsTest(unittest.TestCase):
    def test_no_node_that_is_barred(self):
        for name, node in nodes():
            self.assertNotIsInstance(node, NODES_BARRED, name)
            self.assertNotIsInstance(getattr(node, "value", None), float, name)

    def test_no_generator_expression_beside_an_equality(self):
        for name, node in nodes():
            self.assertNotIsInstance(node, ast.GeneratorExp, (name, getattr(node, "lineno", None)))

    def test_methods_are_own_ones_or_those_of_the_language(self):
        own = {node.name for _, owner in nodes() if isinstance(owner, ast.ClassDef) for node in owner.body
               if isinstance(node, ast.FunctionDef)}
        for name, node in nodes():
            if isinstance(node, ast.Call) and isinstance(node.func, ast.Attribute):
                self.assertIn(node.func.attr, METHODS | own, (name, node.lineno))

    def test_decorators_are_properties(self):
        for name, node in nodes():
            for decorator in getattr(node, "decorator_list", []):
                self.assertEqual(ast.unparse(decorator), "property", (name, node.name))


class AttributesTest(unittest.TestCase):
    def test_no_attribute_has_the_name_of_a_property_or_a_method(self):
        methods = {node.name for _, owner in nodes() if isinstance(owner, ast.ClassDef) for node in owner.body
                   if isinstance(node, ast.FunctionDef)}
        for name, node in nodes():
            if isinstance(node, ast.Attribute) and isinstance(node.ctx, ast.Store):
                self.assertNotIn(node.attr, methods, (name, node.lineno))


class InterfaceTest(unittest.TestCase):
    def test_all_is_defined_where_the_interface_lists_it(self):
        for module, listed in INTERFACE.items():
            body = ast.parse((PACKAGE / f"{module}.py").read_text(encoding="utf-8")).body
            defined = {node.name: node for node in body if isinstance(node, (ast.FunctionDef, ast.ClassDef))}
            for name, methods in listed.items():
                with self.subTest(module=module, name=name):
                    self.assertIn(name, defined)
                    self.assertIs(isinstance(defined[name], ast.FunctionDef), methods is None)
                    found = [node.name for node in defined[name].body if isinstance(node, ast.FunctionDef)]
                    self.assertLessEqual(set(methods or []), set(found))

    def test_the_files_are_those_of_the_interface(self):
        self.assertEqual(set(ARGUMENTS) | {"errors"}, set(INTERFACE))
        for module in INTERFACE:
            self.assertTrue((PACKAGE / f"{module}.py").is_file())

    def test_arguments(self):
        for module, listed in ARGUMENTS.items():
            found = import_module(f"safepatch.{module}")
            for line in listed:
                path, *names = line.split()
                with self.subTest(module=module, path=path):
                    value = found
                    for name in path.split("."):
                        value = getattr(value, name)
                    parameters = list(signature(value).parameters.values())
                    self.assertEqual([one.name for one in parameters if one.name != "self"], names)
                    keyword_only = [one.name for one in parameters if one.kind is one.KEYWORD_ONLY]
                    self.assertEqual(keyword_only, names[3:] if path == "File" else [])


if __name__ == "__main__":
    unittest.main()
