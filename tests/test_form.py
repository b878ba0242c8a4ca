"""The interface as DOC.md lists it, and what of LANGUAGE.md can be seen by a plain look at the files."""

import ast
import inspect
import pathlib
import unittest

import clearyard
from clearyard import (
    bests, clearing, courts, desk, errors, greatest, holds, judging, ledger, members, moves, orders, partners, queues, seals, states, trees, ways, yards,
)

FOLDER = pathlib.Path(clearyard.__file__).parent

# The files in DOC.md's order: each uses those ahead of it alone.
FILES = (
    "errors", "words", "ledger", "holds", "orders", "queues", "greatest", "bests", "clearing", "states", "moves", "seals", "courts",
    "partners", "ways", "members", "trees", "lines", "yards", "judging", "desk",
)

FUNCTIONS = {
    ledger: {"ledger_of": ["rows"]},
    orders: {"is_order": ["thing"]},
    greatest: {"greatest": ["free", "orders"], "shows_greatest": ["free", "orders", "told"]},
    bests: {"best": ["free", "orders"], "shows_best": ["free", "orders", "told"]},
    states: {"is_state": ["thing"], "worth": ["state"], "state_text": ["state"], "read_state": ["text"]},
    moves: {"moved": ["state", "party", "move", "digest"], "mover": ["state"]},
    seals: {
        "is_sealed": ["thing", "keys", "digest"], "lock_of": ["secret", "digest"], "seal_of": ["state", "key", "digest"],
    },
    partners: {"partner_of": ["told", "good", "digest"]},
    ways: {
        "cheapest": ["edges", "payer", "payee", "amount"], "fee": ["edge", "k"], "shows_cheapest": ["edges", "payer", "payee", "amount", "told"],
    },
    trees: {"shows": ["root", "name", "number", "share", "digest"]},
    yards: {"led": ["digest", "deeds"]},
    judging: {"books_of": ["yard"], "judged": ["books", "digest"]},
}

CLASSES = {
    ledger.Ledger: {
        "__init__": [], "enter": ["name"], "put": ["name", "amount"], "take": ["name", "amount"],
        "move": ["one", "other", "amount"], "lock": ["parts"], "share": ["number", "parts"], "net": ["parts"],
        "free": ["name"], "pot": ["number"], "names": [], "pots": [], "total": [], "rows": [], "twin": [],
        "__len__": [], "__eq__": ["other"],
    },
    holds.Holds: {
        "__init__": ["ledger"], "hold": ["payer", "payee", "amount", "until"], "claim": ["number", "amount"],
        "drop": ["number"], "on": ["time"], "now": [], "holds": [],
    },
    queues.Queue: {
        "__init__": [], "add": ["order"], "drop": ["number"], "orders": [], "due": ["time"], "over": ["time"],
        "settle": ["numbers"],
    },
    clearing.Clearing: {
        "__init__": ["ledger"], "add": ["order"], "drop": ["number"], "on": ["time"], "round": ["how"], "rounds": [],
        "queue": [], "now": [],
    },
    courts.Court: {
        "__init__": ["ledger", "digest"], "found": ["one", "other", "x", "y", "keys", "wait"], "post": ["sealed"],
        "leave": ["number"], "agree": ["number", "x", "y", "seals"], "show": ["secret"], "on": ["time"], "now": [], "board": [],
        "pools": [], "opened": ["lock", "until"],
    },
    partners.Partner: {
        "__init__": ["pool", "party", "x", "y", "key", "good", "digest"], "learn": ["secret"], "offer": ["move", "now"],
        "hear": ["message", "pools", "board", "now"], "state": [], "waiting": [], "sealed": [], "again": [], "knows": [],
        "sure": ["pools", "board", "now"], "told": [], "twin": [], "answer": ["pools", "board", "now"],
    },
    members.Member: {
        "__init__": ["name", "partners"], "wish": ["row"], "knows": [], "act": ["pools", "board", "now"],
        "hear": ["pool", "message", "pools", "board", "now"], "ends": ["pools"], "sure": ["pools", "board", "now"],
    },
    trees.Tree: {"__init__": ["accounts", "digest"], "root": [], "share": ["name"]},
    yards.Yard: {
        "__init__": ["digest"], "do": ["deed"], "log": [], "deeds": [], "now": [], "ledger": [], "clearing": [], "member": ["name"], "holds": [], "pools": [],
        "board": [], "line": ["pool", "party"], "worth": ["name"], "tree": [], "twin": [], "all_done": ["deeds"],
    },
    desk.Desk: {"__init__": ["digest"], "say": ["row"]},
}

BUILTINS = {
    "len", "range", "enumerate", "zip", "min", "max", "sum", "abs", "sorted", "reversed", "int", "str", "bool", "list",
    "tuple", "dict", "set", "isinstance", "ord", "repr", "any", "all", "divmod", "ValueError", "KeyError",
}

BARRED = (
    ast.AsyncFunctionDef, ast.AsyncFor, ast.AsyncWith, ast.Await, ast.Global, ast.Import, ast.Div, ast.Set, ast.SetComp,
    ast.Nonlocal, ast.TryStar,
)


def trees():
    for path in sorted(FOLDER.iterdir()):
        if path.name != "__pycache__":
            yield path, ast.parse(path.read_text())


class Interface(unittest.TestCase):

    def test_functions(self):
        for module, functions in FUNCTIONS.items():
            for name, parts in functions.items():
                self.assertEqual(getattr(module, name).__module__, module.__name__)
                self.assertEqual(list(inspect.signature(getattr(module, name)).parameters), parts, name)

    def test_classes(self):
        for each, methods in CLASSES.items():
            for name, parts in methods.items():
                self.assertIn(name, vars(each))
                self.assertEqual(list(inspect.signature(vars(each)[name]).parameters)[1:], parts, name)

    def test_the_package_binds_nothing(self):
        self.assertEqual((FOLDER / "__init__.py").read_text(), "")


class Form(unittest.TestCase):

    def test_files(self):
        names = sorted(path.name for path in FOLDER.iterdir() if path.name != "__pycache__")
        self.assertEqual(names, sorted(["__init__.py", *[name + ".py" for name in FILES]]))

    def test_imports_from_files_ahead_that_define_them(self):
        for path, tree in trees():
            for node in ast.walk(tree):
                if isinstance(node, ast.ImportFrom):
                    package, name = node.module.split(".")
                    self.assertEqual((package, node.level), ("clearyard", 0))
                    self.assertLess(FILES.index(name), FILES.index(path.stem))
                    there = ast.parse((FOLDER / (name + ".py")).read_text()).body
                    defined = [each.name for each in there if isinstance(each, (ast.FunctionDef, ast.ClassDef))]
                    defined += [each.targets[0].id for each in there if isinstance(each, ast.Assign)]
                    for alias in node.names:
                        self.assertIn(alias.name, defined)
                        self.assertIsNone(alias.asname)

    def test_what_is_imported_is_used_and_means_one_thing(self):
        for path, tree in trees():
            imported = [alias.name for node in tree.body if isinstance(node, ast.ImportFrom) for alias in node.names]
            classes = [node.name for node in tree.body if isinstance(node, ast.ClassDef)]
            used = [node.id for node in ast.walk(tree) if isinstance(node, ast.Name) and isinstance(node.ctx, ast.Load)]
            self.assertEqual([name for name in imported if name not in used], [], path)
            self.assertEqual(len(imported), len(set(imported)), path)
            for node in ast.walk(tree):
                if isinstance(node, ast.arg):
                    self.assertNotIn(node.arg, imported + classes, path)
                if isinstance(node, ast.Name) and not isinstance(node.ctx, ast.Load):
                    self.assertNotIn(node.id, imported + classes, path)

    def test_no_name_is_both_a_method_and_an_attribute(self):
        for path, tree in trees():
            for each in tree.body:
                if isinstance(each, ast.ClassDef):
                    methods = [node.name for node in each.body if isinstance(node, ast.FunctionDef)]
                    self.assertEqual(len(methods), len(set(methods)), path)
                    for node in ast.walk(each):
                        if isinstance(node, ast.Attribute) and isinstance(node.ctx, ast.Store):
                            self.assertNotIn(node.attr, methods, path)

    def test_sizes_and_signs(self):
        for path, tree in trees():
            text = path.read_text()
            self.assertTrue(all(sign == "\n" or " " <= sign <= "~" for sign in text), path)
            self.assertLessEqual(len(text.splitlines()), 399, path)
            self.assertLessEqual(max([0, *map(len, text.splitlines())]), 120, path)
            for node in ast.walk(tree):
                if isinstance(node, ast.FunctionDef):
                    self.assertLessEqual(node.end_lineno - node.lineno + 1, 40, node.name)

    def test_what_is_barred(self):
        for path, tree in trees():
            for node in ast.walk(tree):
                self.assertNotIsInstance(node, BARRED, path)
                if isinstance(node, ast.Constant):
                    self.assertNotIsInstance(node.value, (float, complex), path)
                    self.assertFalse(isinstance(node.value, str) and "%" in node.value, path)
                if isinstance(node, (ast.FunctionDef, ast.ClassDef)):
                    self.assertEqual(node.decorator_list, [], path)
                if isinstance(node, ast.ExceptHandler):
                    self.assertIsNotNone(node.type, path)

    def test_what_a_star_stands_before(self):
        for path, tree in trees():
            for node in ast.walk(tree):
                if isinstance(node, ast.Starred) and isinstance(node.value, ast.Call):
                    called = node.value.func
                    name = called.id if isinstance(called, ast.Name) else called.attr
                    self.assertNotIn(name, ("range", "zip", "enumerate", "reversed", "items", "keys", "values", "set"), path)

    def test_builtins(self):
        everything = set(dir(__builtins__)) if not isinstance(__builtins__, dict) else set(__builtins__)
        for path, tree in trees():
            for node in ast.walk(tree):
                if isinstance(node, ast.Name) and node.id in everything:
                    self.assertIsInstance(node.ctx, ast.Load, path)
                    self.assertIn(node.id, BUILTINS, path)
                if isinstance(node, ast.arg):
                    self.assertNotIn(node.arg, everything, path)
                if isinstance(node, (ast.FunctionDef, ast.ClassDef)) and node in tree.body:
                    self.assertNotIn(node.name, everything, path)

    def test_module_level(self):
        for path, tree in trees():
            for node in tree.body:
                docstring = isinstance(node, ast.Expr) and isinstance(node.value, ast.Constant)
                plain = (ast.ImportFrom, ast.FunctionDef, ast.ClassDef, ast.Assign)
                self.assertTrue(docstring or isinstance(node, plain), path)

    def test_refusals_are_those_of_errors(self):
        for path, tree in trees():
            for node in ast.walk(tree):
                if isinstance(node, ast.Raise) and node.exc is not None:
                    self.assertTrue(issubclass(getattr(errors, node.exc.func.id), errors.YardError), path)


if __name__ == "__main__":
    unittest.main()
