"""The interface as the document lists it, and what can be seen of the rules for the files of the package."""

import ast
import importlib
import inspect
import pathlib
import unittest

FOLDER = pathlib.Path(__file__).resolve().parent.parent / "ownlists"
INTERFACE = {
    "books": {
        "is_book": ["thing"], "bills": ["book"], "payers": ["book"], "list_of": ["book", "payer"],
        "payers_with": ["book", "bill"], "ahead": ["book", "payer", "bill"], "behind": ["book", "payer", "bill"],
        "with_payer": ["book", "payer", "row"], "without_payer": ["book", "payer"],
        "with_list": ["book", "payer", "row"], "with_bill": ["book", "bill"], "struck": ["book", "bill"],
        "parted": ["book", "bill", "name"], "renamed": ["book", "pairs"], "renamed_payers": ["book", "pairs"],
    },
    "laid": {
        "is_dues": ["book", "thing"], "is_payments": ["book", "thing"], "is_order": ["payments", "thing"],
        "first_open": ["book", "dues", "payer"], "paid": ["book", "dues", "payer", "amount"],
        "laid": ["book", "dues", "payer", "amount"], "along": ["book", "dues", "payments", "order"],
        "end_of": ["book", "dues", "payments", "order"], "ends": ["book", "dues", "payments"],
        "paid_by": ["book", "dues", "payments", "order"], "given_back": ["book", "dues", "payments", "order"],
        "sum_back": ["book", "dues", "payments", "order"],
    },
    "agree": {
        "rest_beside": ["one", "other", "bill"], "agree": ["one", "other"], "odd_bills": ["one", "other"],
        "agreeing": ["book", "payer"], "odd_pairs": ["book"], "is_good": ["book"], "parting": ["book"],
        "parting_of": ["book", "one", "other"], "is_parting": ["book", "thing"],
    },
    "joining": {
        "may_join": ["book", "row"], "joining": ["book"], "how_many_join": ["book"], "joining_from": ["book", "row"],
        "having": ["book", "payer"], "longest_beginning": ["book", "payer"], "most_kept": ["book"],
        "whole_kept": ["book"], "fewest_struck": ["book"],
    },
    "kinds": {
        "is_heads": ["thing"], "way_from": ["heads", "bill"], "heads_of": ["book"],
        "book_by_heads": ["heads", "firsts"], "circle_of": ["book"], "book_round": ["circle", "firsts"],
        "row_of": ["book"], "kinds_of": ["book"], "with_rest": ["book", "rest"], "is_table": ["bills", "thing"],
        "how_many_tables": ["number"], "how_many_good_tables": ["bills"], "nth_good_table": ["bills", "number"],
        "number_of_good_table": ["table"], "book_of_table": ["table"],
    },
    "sums": {
        "open_by": ["book", "dues", "sums"], "back_by": ["book", "dues", "sums"],
        "next_paid": ["book", "dues", "sums", "payer"], "next_due": ["book", "dues", "sums", "bill"],
        "least_to_pay": ["book", "dues", "sums", "payer", "bill"], "open_spans": ["book", "dues", "lows", "highs"],
        "back_span": ["book", "dues", "lows", "highs"],
    },
    "counts": {
        "after_ones": ["book", "dues", "row"], "opens_after": ["book", "dues", "many"],
        "how_many_rows": ["book", "dues", "many", "left"], "how_many_pay_all": ["book", "dues", "many"],
        "how_many_without_back": ["book", "dues", "many"], "nth_row": ["book", "dues", "many", "left", "number"],
        "number_of_row": ["book", "dues", "row"],
    },
    "could": {
        "payments_for": ["book", "dues", "left"], "can_stand": ["book", "dues", "thing"],
        "is_payments_for": ["book", "dues", "left", "thing"], "payable": ["book", "dues"], "rounds": ["book", "dues"],
        "can_be_whole": ["book", "dues", "some"], "whole_sets": ["book", "dues"], "how_many_whole": ["book", "dues"],
        "how_many_opens": ["book", "dues"], "least_payers": ["book", "dues", "left"],
        "least_ahead": ["book", "dues", "bill"], "always_ahead": ["book", "dues", "bill"],
    },
    "orders": {
        "orders_by_ends": ["book", "dues", "payments"], "how_many_orders_to": ["book", "dues", "payments", "left"],
        "least_order_to": ["book", "dues", "payments", "left"], "has_one_end": ["book", "dues", "payments"],
        "parting_orders": ["book", "dues", "payments"], "is_parting_orders": ["book", "dues", "payments", "thing"],
        "sure_open": ["book", "dues", "payments"], "open_range": ["book", "dues", "payments", "bill"],
        "surely_whole": ["book", "dues", "payments"], "maybe_whole": ["book", "dues", "payments"],
        "back_range": ["book", "dues", "payments"], "paid_range": ["book", "dues", "payments", "place", "bill"],
        "ends_with": ["book", "dues", "payments", "pairs"],
    },
    "told": {
        "is_readings": ["names", "thing"], "fits": ["row", "readings"], "lists_fitting": ["names", "readings"],
        "how_many_fitting": ["names", "readings"], "first_unfit": ["names", "readings"],
        "surely_ahead": ["names", "readings"], "surely_in": ["names", "readings"], "surely_out": ["names", "readings"],
        "sure_left": ["names", "readings", "dues", "amount"], "open_ask": ["names", "readings"],
        "is_open_ask": ["names", "readings", "thing"], "told_back": ["names", "asker"],
    },
    "changed": {
        "good_exchanges": ["book", "payer"], "good_puts": ["book", "payer", "bill"], "good_outs": ["book", "payer"],
        "fewest_steps": ["one", "other"], "nearest_lists": ["book", "payer"], "unlike_payers": ["one", "other"],
        "parting_payment": ["one", "other"], "is_parting_payment": ["one", "other", "thing"],
    },
    "texts": {
        "row_text": ["row"], "row_in": ["text"], "book_text": ["book"], "book_in": ["text"], "pairs_text": ["pairs"],
        "pairs_in": ["text"], "board_text": ["board"], "board_in": ["text"],
    },
    "desk": {"answers": ["text"]},
}
BOARD = {
    "__init__": ["bills"], "good": [], "odd": [], "shares": ["payer", "amount"], "above": ["payer"], "doubled": [],
    "effect": ["payer", "row"], "due": ["bill", "amount"], "pay": ["payer", "amount"], "leave": ["payer"],
    "frame": ["payer", "low", "high"], "lift": ["payer"], "attempt": ["deeds"], "undo": [], "twin": [],
}
SIGNS = ("__len__", "__contains__", "__getitem__", "__setitem__", "__eq__", "__iadd__", "__iter__")
PROPERTIES = ("bills", "owed", "back", "names", "frames")
BARRED_WORDS = {"type", "typing", "enum", "dataclass", "namedtuple", "register", "open", "input", "law", "elements"}


def trees():
    """The pairs (path, tree) of all files of the package."""
    return [(path, ast.parse(path.read_text("utf-8"))) for path in sorted(FOLDER.glob("*.py"))]


def names_in(tree):
    """All names that a file gives or uses."""
    for node in ast.walk(tree):
        for field in ("id", "name", "attr", "arg"):
            name = getattr(node, field, None)
            if isinstance(name, str):
                yield name


class Interface(unittest.TestCase):

    def test_functions_stand_in_their_files_with_their_arguments(self):
        for file, functions in INTERFACE.items():
            module = importlib.import_module("ownlists." + file)
            for name, arguments in functions.items():
                with self.subTest(file=file, name=name):
                    function = getattr(module, name)
                    self.assertEqual((function.__module__, function.__name__), (module.__name__, name))
                    self.assertEqual(list(inspect.signature(function).parameters), arguments)

    def test_the_board_has_its_methods_itself(self):
        kind = importlib.import_module("ownlists.board").Board
        self.assertEqual((kind.__module__, kind.__name__, kind.__bases__), ("ownlists.board", "Board", (object,)))
        for name, arguments in BOARD.items():
            with self.subTest(name=name):
                self.assertEqual(list(inspect.signature(vars(kind)[name]).parameters), ["self"] + arguments)
        for name in SIGNS:
            self.assertTrue(inspect.isfunction(vars(kind)[name]), name)
        for name in PROPERTIES:
            self.assertIsInstance(vars(kind)[name], property)
            self.assertIsNone(vars(kind)[name].fset)


class Rules(unittest.TestCase):

    def test_the_folder_holds_files_alone(self):
        strange = [path.name for path in FOLDER.iterdir() if path.suffix != ".py" and path.name != "__pycache__"]
        self.assertEqual(strange, [])
        self.assertTrue((FOLDER / "__init__.py").is_file())

    def test_characters_and_sizes(self):
        for path, tree in trees():
            text = path.read_text("utf-8")
            lines = text.split("\n")
            with self.subTest(path.name):
                self.assertEqual([letter for letter in text if not (" " <= letter <= "~" or letter == "\n")], [])
                self.assertLessEqual(len(lines), 399)
                self.assertLessEqual(max(len(line) for line in lines), 120)
                for node in ast.walk(tree):
                    if isinstance(node, ast.FunctionDef):
                        self.assertLessEqual(node.end_lineno - node.lineno + 1, 40, node.name)

    def test_imports_come_from_the_package_and_from_the_file_that_defines(self):
        for path, tree in trees():
            for node in ast.walk(tree):
                self.assertNotIsInstance(node, ast.Import, path.name)
                if isinstance(node, ast.ImportFrom):
                    self.assertEqual((node.level, node.module.split(".")[0]), (0, "ownlists"))
                    module = importlib.import_module(node.module)
                    for alias in node.names:
                        self.assertEqual(getattr(module, alias.name).__module__, node.module)

    def test_names(self):
        builtin_names = set(dir(importlib.import_module("builtins")))
        for path, tree in trees():
            bound = {node.id for node in ast.walk(tree) if isinstance(node, ast.Name) and isinstance(node.ctx, ast.Store)}
            bound |= {node.name for node in ast.walk(tree) if isinstance(node, (ast.FunctionDef, ast.ClassDef))}
            bound |= {node.arg for node in ast.walk(tree) if isinstance(node, ast.arg)}
            with self.subTest(path.name):
                self.assertEqual(bound & builtin_names, set())
                self.assertEqual(set(names_in(tree)) & BARRED_WORDS, set())

    def test_no_local_name_is_that_of_an_import(self):
        for path, tree in trees():
            imported = {alias.name for node in tree.body if isinstance(node, ast.ImportFrom) for alias in node.names}
            tops = [top for top in tree.body if isinstance(top, (ast.FunctionDef, ast.ClassDef))]
            inside = [node for top in tops for node in ast.walk(top)]
            local = {node.id for node in inside if isinstance(node, ast.Name) and isinstance(node.ctx, ast.Store)}
            local |= {node.arg for node in inside if isinstance(node, ast.arg)}
            with self.subTest(path.name):
                self.assertEqual(imported & local, set())

    def test_what_a_class_with_signs_asks_of_all_files(self):
        for path, tree in trees():
            for node in ast.walk(tree):
                self.assertNotIsInstance(node, (ast.AugAssign, ast.GeneratorExp), path.name)
                if isinstance(node, ast.ClassDef):
                    parts = [part for part in node.body if isinstance(part, ast.FunctionDef)]
                    decorated = [part.name for part in parts for sign in part.decorator_list if sign.id != "property"]
                    self.assertEqual(decorated, [], path.name)

    def test_a_caught_error_has_a_name_of_its_own(self):
        for path, tree in trees():
            for top in ast.walk(tree):
                if isinstance(top, ast.FunctionDef):
                    caught = [node.name for node in ast.walk(top) if isinstance(node, ast.ExceptHandler) and node.name]
                    bound = [node.id for node in ast.walk(top) if isinstance(node, ast.Name)
                             and isinstance(node.ctx, ast.Store)] + [node.arg for node in top.args.args]
                    self.assertEqual(len(set(caught)), len(caught), (path.name, top.name))
                    self.assertEqual(set(caught) & set(bound), set(), (path.name, top.name))

    def test_kinds_of_code(self):
        barred = (ast.Global, ast.AsyncFunctionDef, ast.Await, ast.Div)
        for path, tree in trees():
            for node in ast.walk(tree):
                self.assertNotIsInstance(node, barred, path.name)
                if isinstance(node, ast.Constant):
                    self.assertNotIsInstance(node.value, float)
                    self.assertFalse(isinstance(node.value, str) and "%" in node.value, path.name)
            for node in tree.body:
                self.assertEqual(getattr(node, "decorator_list", []), [], path.name)


if __name__ == "__main__":
    unittest.main()
