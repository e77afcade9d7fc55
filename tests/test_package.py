"""The interface as the document lists it, and those rules of the language that can be seen in the code."""

import ast
import builtins
import importlib
import inspect
import pathlib
import re
import unittest

FOLDER = pathlib.Path(__file__).resolve().parent.parent / "pairedtongues"
FILES = sorted(FOLDER.rglob("*.py"))
DOCUMENT = FOLDER.parent.parent / "shared" / "DOC.md"

# The interface: the file, and its functions with their parameters.
INTERFACE = {
    "books": {"is_book": ["thing"], "words_of": ["book", "side"], "turned": ["book"], "widest": ["book"]},
    "rows": {"write_book": ["book"], "read_book": ["text"]},
    "forms": {
        "variables_of": ["book", "number", "side"], "bindings_of": ["book", "number", "side"], "forms_of": ["book", "side", "name"],
        "joined_form": ["book", "side", "name", "form", "other"], "word_forms": ["book", "side", "word"],
    },
    "readings": {
        "readings": ["book", "side", "text"], "count_readings": ["book", "side", "text"],
        "reading_holds": ["book", "side", "text", "thing"], "read_by": ["book", "side", "thing"],
        "stretches": ["book", "side", "text"], "no_reading_paper": ["book", "side", "text"],
        "no_reading_holds": ["book", "side", "text", "thing"], "goes_on": ["book", "side", "text"],
        "first_wrong": ["book", "side", "text"],
    },
    "pairs": {
        "papers": ["book", "left", "right"], "count_papers": ["book", "left", "right"], "is_pair": ["book", "left", "right"],
        "paper_holds": ["book", "left", "right", "thing"], "made_by": ["book", "thing"],
        "side_reading": ["book", "side", "thing"], "pairs_of": ["book", "count", "other"], "texts_of": ["book", "side", "count"],
        "no_pair_paper": ["book", "left", "right"], "no_pair_holds": ["book", "left", "right", "thing"],
        "links": ["book", "thing"], "sure_links": ["book", "left", "right"], "open_links": ["book", "left", "right"],
        "crossings": ["links"],
    },
    "leading": {
        "turned_papers": ["book", "side", "reading"], "led": ["book", "side", "text"], "first_led": ["book", "side", "text"],
        "count_led_papers": ["book", "side", "text"], "why_not": ["book", "side", "text"], "written": ["book", "side", "thing"],
        "led_between": ["book", "side", "text", "count", "other"], "kept_words": ["book", "left", "right"],
    },
    "agreeing": {
        "loose_readings": ["book", "side", "text"], "bindings_for": ["book", "side", "reading"],
        "clash": ["book", "side", "reading"], "mended": ["book", "side", "text"],
        "fitting_words": ["book", "side", "text", "place"], "without_feature": ["book", "name"],
        "idle_features": ["book", "count"],
    },
    "turns": {
        "order_of": ["book", "number"], "inversions": ["order"], "split_tree": ["order"], "split_holds": ["order", "thing"],
        "bar_of": ["order"], "split_book": ["book"],
    },
    "worlds": {
        "worlds_of": ["book"], "true_in": ["book", "term", "world"], "cells_in": ["book", "term"],
        "parts_apart": ["book", "term", "other"], "follows": ["book", "terms", "term"],
    },
    "meanings": {
        "meaning": ["book", "side", "reading"], "rule_keeps": ["book", "number"], "book_keeps": ["book", "count"],
        "doubtful": ["book", "side", "text"], "sayings_of": ["book", "side", "term", "count"],
    },
    "rounds": {
        "back": ["book", "side", "text"], "comes_alone": ["book", "side", "text"], "rounds": ["book", "side", "text"],
        "alike_texts": ["book", "side", "count"], "lost": ["book", "side", "count"],
        "led_through": ["book", "other", "side", "text"],
    },
    "nearby": {
        "nearest": ["book", "side", "text"], "nearest_pair": ["book", "left", "right", "count"],
        "fillings": ["book", "side", "gapped"], "pair_fillings": ["book", "left", "right"],
        "sure_words": ["book", "left", "right"], "count_fillings": ["book", "left", "right"],
    },
    "learning": {
        "part_book": ["book", "numbers"], "fits": ["book", "numbers", "examples"], "fewest_rules": ["book", "examples"],
        "rules_of": ["book", "thing"], "branching_paper": ["book", "examples", "count"],
        "branching_holds": ["book", "examples", "count", "thing"], "sure_rules": ["book", "examples"],
        "open_rules": ["book", "examples"], "parting_pair": ["book", "numbers", "others", "count"],
        "first_unfit": ["book", "numbers", "examples"],
    },
    "beside": {
        "needless_rules": ["book", "count"], "books_apart": ["book", "other", "count"], "joined_books": ["book", "other"],
    },
}

# The same for classes: the file, the class, and its methods with their parameters.
CLASSES = {
    ("session", "Session"): {
        "__init__": ["self", "book"], "add": ["self", "rule"], "leave_out": ["self", "name"], "undo": ["self"], "book": ["self"],
        "led": ["self", "side", "text"], "readings": ["self", "side", "text"], "is_pair": ["self", "left", "right"],
        "__len__": ["self"], "__eq__": ["self", "other"], "copy": ["self"],
    },
    ("desk", "Desk"): {"__init__": ["self"], "say": ["self", "row"], "session": ["self"]},
}

BUILTINS = set(
    "len range enumerate zip min max sum abs sorted reversed int str bool list tuple dict set isinstance ord repr any all "
    "divmod pow ValueError KeyError TypeError".split()
)
METHODS = set(
    "append clear copy count endswith extend find get index insert isalnum isalpha isdigit islower isspace isupper items join "
    "keys ljust lower lstrip partition pop remove replace reverse rfind rjust rpartition rsplit rstrip setdefault split "
    "splitlines startswith strip update upper values zfill bit_length add discard".split()
)
BARRED_WORDS = re.compile(
    r"\b(type|typing|typing_extensions|enum|Enum|IntEnum|StrEnum|Flag|IntFlag|Generic|Protocol|ABC|ABCMeta|namedtuple|NamedTuple"
    r"|TypedDict|TYPE_CHECKING|abstractmethod|register|mro|elements|open|input|law|eval|exec|exit|getattr|globals|locals|vars"
    r"|dir|id|os|sys|super|delattr|compile|help|quit)\b"
)
METHOD_NAMES = ("__init__", "__eq__", "__len__")
NODES = (
    ast.Module, ast.Import, ast.ImportFrom, ast.alias, ast.FunctionDef, ast.ClassDef, ast.arguments, ast.arg, ast.Return,
    ast.Assign, ast.AugAssign, ast.Delete, ast.For, ast.While, ast.If, ast.Raise, ast.Try, ast.ExceptHandler, ast.Expr, ast.Pass,
    ast.Break, ast.Continue, ast.BoolOp, ast.BinOp, ast.UnaryOp, ast.IfExp, ast.Dict, ast.Set, ast.ListComp, ast.SetComp,
    ast.DictComp, ast.Compare, ast.Call, ast.Constant, ast.Attribute, ast.Subscript, ast.Starred, ast.Name, ast.List, ast.Tuple,
    ast.Slice, ast.comprehension, ast.keyword, ast.expr_context, ast.boolop, ast.operator, ast.unaryop, ast.cmpop, ast.Lambda,
    ast.JoinedStr, ast.FormattedValue,
)


def trees():
    return [(file, ast.parse(file.read_text("utf-8"))) for file in FILES]


def own_functions():
    return {
        node.name for _, tree in trees() for node in ast.walk(tree) if isinstance(node, (ast.FunctionDef, ast.ClassDef))
    }


class Interface(unittest.TestCase):
    def test_functions_and_their_parameters(self):
        for name, functions in INTERFACE.items():
            module = importlib.import_module(f"pairedtongues.{name}")
            for function, parameters in functions.items():
                with self.subTest(function):
                    found = getattr(module, function)
                    self.assertEqual(found.__module__, f"pairedtongues.{name}")
                    self.assertEqual(list(inspect.signature(found).parameters), parameters)


    def test_classes_and_their_methods(self):
        for (name, shape), methods in CLASSES.items():
            found = getattr(importlib.import_module(f"pairedtongues.{name}"), shape)
            self.assertEqual(found.__module__, f"pairedtongues.{name}")
            for method, parameters in methods.items():
                with self.subTest(shape, method=method):
                    self.assertIn(method, vars(found))
                    self.assertEqual(list(inspect.signature(vars(found)[method]).parameters), parameters)

    def test_all_of_the_document_is_there(self):
        if not DOCUMENT.exists():
            self.skipTest("the document is not here")
        listed = DOCUMENT.read_text("utf-8").split("# The interface", 1)[1]
        for heading in re.split(r"^## pairedtongues/", listed, flags=re.M)[1:]:
            name = heading.split(".py", 1)[0]
            module = importlib.import_module(f"pairedtongues.{name}")
            for function, arguments in re.findall(r"`([a-z_]+)\(([a-z, ]*)\)`", heading):
                if name not in ("session", "desk"):
                    with self.subTest(function):
                        self.assertEqual(list(inspect.signature(vars(module)[function]).parameters), arguments.split(", "))
            for kind, _, methods in re.findall(r"class `([A-Z][A-Za-z]+)\((.*?)\)`(.*)", heading):
                for method in re.findall(r"`([a-z_]+)\(", methods):
                    self.assertIn(method, vars(vars(module)[kind]))


class Files(unittest.TestCase):
    def test_nothing_else_is_in_the_folder(self):
        for path in FOLDER.rglob("*"):
            if "__pycache__" not in path.parts:
                self.assertTrue(path.is_file() and re.fullmatch(r"[a-z0-9_]+\.py", path.name), path)
        self.assertTrue((FOLDER / "__init__.py").is_file())

    def test_size_and_characters(self):
        for file in FILES:
            text = file.read_text("utf-8")
            self.assertTrue(all(letter == "\n" or " " <= letter <= "~" for letter in text), file)
            self.assertLessEqual(len(text.split("\n")), 399, file)
            self.assertLessEqual(max(len(line) for line in text.split("\n")), 120, file)

    def test_functions_are_short(self):
        for file, tree in trees():
            for node in ast.walk(tree):
                if isinstance(node, ast.FunctionDef):
                    self.assertLessEqual(node.end_lineno - node.lineno + 1, 40, (file, node.name))


class Code(unittest.TestCase):
    def test_imports(self):
        reached = {}
        for file, tree in trees():
            reached[file.stem] = []
            for node in ast.walk(tree):
                self.assertNotIsInstance(node, ast.Import, file)
                if isinstance(node, ast.ImportFrom):
                    folder, name = node.module.split(".")
                    self.assertEqual((folder, node.level), ("pairedtongues", 0), file)
                    self.assert_defined(name, node)
                    reached[file.stem].append(name)
        # An order in which each file imports from those ahead of it alone: no two import from each other.
        ordered = []
        while len(ordered) < len(reached):
            ready = [name for name in sorted(reached) if name not in ordered and set(reached[name]) <= set(ordered)]
            self.assertTrue(ready, "files import from each other")
            ordered.extend(ready)

    def assert_defined(self, name, node):
        tree = ast.parse((FOLDER / f"{name}.py").read_text("utf-8"))
        defined = {part.name for part in tree.body if isinstance(part, (ast.FunctionDef, ast.ClassDef))}
        defined |= {part.targets[0].id for part in tree.body if isinstance(part, ast.Assign)}
        for alias in node.names:
            self.assertIsNone(alias.asname)
            self.assertIn(alias.name, defined, name)

    def test_statements_at_module_level(self):
        for file, tree in trees():
            for node in tree.body:
                docstring = isinstance(node, ast.Expr) and isinstance(node.value, ast.Constant)
                plain = isinstance(node, (ast.ImportFrom, ast.FunctionDef, ast.ClassDef, ast.Assign))
                self.assertTrue(docstring or plain, (file, node.lineno))

    def test_parts_of_the_code(self):
        for file, tree in trees():
            for node in ast.walk(tree):
                where = (file.name, getattr(node, "lineno", 0))
                self.assertIsInstance(node, NODES, where)
                self.assertNotIsInstance(node, (ast.Div, ast.MatMult), where)
                if isinstance(node, ast.Constant):
                    self.assertNotIsInstance(node.value, (float, complex), where)
                if isinstance(node, (ast.FunctionDef, ast.ClassDef)):
                    self.assertEqual(node.decorator_list, [], where)

    def test_builtins(self):
        for file, tree in trees():
            for node in ast.walk(tree):
                if isinstance(node, ast.Name) and hasattr(builtins, node.id):
                    self.assertIn(node.id, BUILTINS, (file.name, node.lineno))
                    self.assertIsInstance(node.ctx, ast.Load, (file.name, node.lineno))
                if isinstance(node, ast.arg):
                    self.assertFalse(hasattr(builtins, node.arg), (file.name, node.lineno))

    def test_no_local_name_is_that_of_an_import_or_a_class(self):
        for file, tree in trees():
            taken = {alias.name for node in ast.walk(tree) if isinstance(node, ast.ImportFrom) for alias in node.names}
            taken |= {node.name for node in ast.walk(tree) if isinstance(node, ast.ClassDef)}
            for node in ast.walk(tree):
                if isinstance(node, ast.Name) and isinstance(node.ctx, ast.Store):
                    self.assertNotIn(node.id, taken, (file.name, node.lineno))
                if isinstance(node, ast.arg):
                    self.assertNotIn(node.arg, taken, (file.name, node.lineno))

    def test_each_name_is_bound_once(self):
        for file, tree in trees():
            bound = [alias.name for node in tree.body if isinstance(node, ast.ImportFrom) for alias in node.names]
            bound += [node.name for node in tree.body if isinstance(node, (ast.FunctionDef, ast.ClassDef))]
            bound += [node.targets[0].id for node in tree.body if isinstance(node, ast.Assign)]
            self.assertEqual(len(bound), len(set(bound)), file)

    def test_all_that_is_imported_is_used(self):
        for file, tree in trees():
            used = {node.id for node in ast.walk(tree) if isinstance(node, ast.Name)}
            for node in ast.walk(tree):
                if isinstance(node, ast.ImportFrom):
                    for alias in node.names:
                        self.assertIn(alias.name, used, file)

    def test_sets_are_measured_sorted_or_asked_at_once(self):
        for file, tree in trees():
            fine = set()
            for node in ast.walk(tree):
                if isinstance(node, ast.Call) and isinstance(node.func, ast.Name) and node.func.id in ("sorted", "len"):
                    if not node.keywords:
                        fine |= {id(part) for part in node.args}
            for node in ast.walk(tree):
                called = isinstance(node, ast.Call) and isinstance(node.func, ast.Name) and node.func.id in ("set", "frozenset")
                if called or isinstance(node, (ast.Set, ast.SetComp)):
                    self.assertIn(id(node), fine, (file.name, node.lineno))

    def test_attributes_have_no_names_of_methods(self):
        methods = {name for kind in (str, int, list, dict, set, bytes, tuple) for name in dir(kind)} - {"add", "count", "index"}
        for file, tree in trees():
            for node in ast.walk(tree):
                if isinstance(node, ast.Attribute) and isinstance(node.ctx, ast.Store):
                    self.assertNotIn(node.attr, methods, (file.name, node.lineno))

    def test_methods(self):
        own = own_functions()
        for file, tree in trees():
            for node in ast.walk(tree):
                if isinstance(node, ast.Call) and isinstance(node.func, ast.Attribute):
                    self.assertIn(node.func.attr, METHODS | own, (file.name, node.lineno))

    def test_names(self):
        for file, tree in trees():
            for node in ast.walk(tree):
                for field in ("id", "attr", "arg", "name"):
                    name = getattr(node, field, None)
                    if isinstance(name, str) and not (isinstance(node, ast.FunctionDef) and name in METHOD_NAMES):
                        self.assertFalse(name.startswith("__") or BARRED_WORDS.fullmatch(name), (file.name, name))
                if isinstance(node, ast.Constant) and isinstance(node.value, str):
                    self.assertNotIn("%", node.value)


if __name__ == "__main__":
    unittest.main()
