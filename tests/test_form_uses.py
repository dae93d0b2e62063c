"""More rules of form: how sets, loops, errors, classes and borrowed names are used in the package."""

import ast
import unittest

from tests.test_form import imported_names, names_at_the_top, trees

# What takes a zip, a range, a view and the like and goes over it at once.
TAKERS = ("list", "tuple", "dict", "sorted", "sum", "any", "all", "enumerate", "zip", "min", "max", "combinations")
GOING_OVER = ("zip", "enumerate", "range", "reversed", "combinations")
BORROWED = {
    "heapq": {"heappush", "heappop", "heapify", "heapreplace", "heappushpop"},
    "math": {"gcd", "lcm", "isqrt", "comb", "perm", "factorial"},
    "itertools": {"product", "combinations", "permutations"},
}
KEYWORDS = {"sorted": {"key", "reverse"}, "min": {"key", "default"}, "max": {"key", "default"}, "sum": {"start"}, "enumerate": {"start"}, "zip": {"strict"}}
NOT_USED_HERE = (
    ast.GeneratorExp, ast.Yield, ast.YieldFrom, ast.Global, ast.Nonlocal, ast.With, ast.Match, ast.Starred, ast.NamedExpr, ast.Assert, ast.AnnAssign,
    ast.Pow, ast.Delete,
)
METHODS_OF_VALUES = set(dir(str)) | set(dir(list)) | set(dir(dict)) | set(dir(set)) | set(dir(int)) | set(dir(bytes)) | set(dir(tuple))
NOT_TO_BE_MODIFIED = ("append", "extend", "insert", "pop", "remove", "clear", "sort", "reverse", "update", "setdefault", "add", "discard", "popitem")


def with_parents(tree):
    """Each node with the one that it stands in."""
    return [(child, node) for node in ast.walk(tree) for child in ast.iter_child_nodes(node)]


def called(node):
    """The bare name that is called, or None."""
    return node.func.id if isinstance(node, ast.Call) and isinstance(node.func, ast.Name) else None


def classes():
    return [node for _, tree in trees() for node in tree.body if isinstance(node, ast.ClassDef)]


def error_names():
    return {node.name for node in classes() if any(isinstance(base, ast.Name) and base.id.endswith("Error") for base in node.bases)}


def attributes_stored(node):
    return {one.attr for one in ast.walk(node) if isinstance(one, ast.Attribute) and isinstance(one.ctx, ast.Store)}


class Uses(unittest.TestCase):
    def test_what_is_not_used(self):
        for name, tree in trees():
            for node in ast.walk(tree):
                self.assertNotIsInstance(node, NOT_USED_HERE, (name, getattr(node, "lineno", 0)))
                if isinstance(node, (ast.FunctionDef, ast.ClassDef)):
                    self.assertEqual(node.decorator_list, [], (name, node.name))
                    self.assertIsNotNone(ast.get_docstring(node) or node.name.startswith("_") or None, (name, node.name))

    def test_sets_are_only_measured_sorted_and_looked_into(self):
        for name, tree in trees():
            for node, parent in with_parents(tree):
                if isinstance(node, (ast.Set, ast.SetComp)) or called(node) == "set":
                    there = called(parent) in ("sorted", "len") and not parent.keywords or isinstance(parent, ast.Compare)
                    self.assertTrue(there, (name, node.lineno))

    def test_what_is_gone_over_is_gone_over_at_once(self):
        for name, tree in trees():
            for node, parent in with_parents(tree):
                views = isinstance(node, ast.Call) and isinstance(node.func, ast.Attribute) and node.func.attr in ("items", "keys", "values")
                if called(node) in GOING_OVER or views:
                    at_once = called(parent) in TAKERS or isinstance(parent, (ast.For, ast.comprehension)) and parent.iter is node
                    self.assertTrue(at_once, (name, node.lineno))

    def test_what_is_gone_over_is_not_modified(self):
        for name, tree in trees():
            for loop in ast.walk(tree):
                if isinstance(loop, ast.For):
                    over = {ast.dump(one) for one in ast.walk(loop.iter) if isinstance(one, (ast.Name, ast.Attribute))}
                    for node in (one for row in loop.body for one in ast.walk(row)):
                        if isinstance(node, ast.Call) and isinstance(node.func, ast.Attribute) and node.func.attr in NOT_TO_BE_MODIFIED:
                            self.assertNotIn(ast.dump(node.func.value), over, (name, node.lineno))
                        if called(node) in BORROWED["heapq"]:
                            self.assertNotIn(ast.dump(node.args[0]), over, (name, node.lineno))
                        if isinstance(node, ast.Subscript) and isinstance(node.ctx, ast.Store):
                            self.assertNotIn(ast.dump(node.value).replace("Store", "Load"), over, (name, node.lineno))

    def test_identity_is_asked_of_none_and_truth_values_alone(self):
        for name, tree in trees():
            for node in ast.walk(tree):
                if isinstance(node, ast.Compare) and any(isinstance(sign, (ast.Is, ast.IsNot)) for sign in node.ops):
                    right = node.comparators[0]
                    self.assertTrue(isinstance(right, ast.Constant) and right.value in (None, True, False), (name, node.lineno))

    def test_errors_are_made_on_the_spot_and_caught_by_name(self):
        errors = error_names()
        self.assertIn("BadJournal", errors)
        for name, tree in trees():
            for node in ast.walk(tree):
                if isinstance(node, ast.Raise):
                    self.assertIn(called(node.exc), errors, (name, node.lineno))
                    self.assertIsNone(node.cause)
                if isinstance(node, ast.ExceptHandler):
                    self.assertTrue(isinstance(node.type, ast.Name) and node.type.id in errors, (name, node.lineno))

    def test_borrowed_names_are_only_called(self):
        for name, tree in trees():
            for node in tree.body:
                if isinstance(node, ast.ImportFrom) and node.module in BORROWED:
                    self.assertLessEqual({alias.name for alias in node.names}, BORROWED[node.module], name)
                    self.assertTrue(all(alias.asname is None for alias in node.names))
                    for used, parent in with_parents(tree):
                        if isinstance(used, ast.Name) and used.id in {alias.name for alias in node.names}:
                            self.assertTrue(isinstance(parent, ast.Call) and parent.func is used and not parent.keywords, (name, used.lineno))

    def test_keywords_of_builtins(self):
        for name, tree in trees():
            own = set(names_at_the_top(tree) + imported_names(tree))
            for node in ast.walk(tree):
                if isinstance(node, ast.Call) and node.keywords:
                    if called(node) not in own:
                        self.assertLessEqual({word.arg for word in node.keywords}, KEYWORDS.get(called(node), set()), (name, node.lineno))

    def test_values_at_the_top_are_plain(self):
        for name, tree in trees():
            for node in tree.body:
                if isinstance(node, ast.Assign):
                    self.assertEqual(len(node.targets), 1)
                    worth = ast.literal_eval(node.value)
                    if isinstance(worth, (dict, list)):
                        inner = list(worth.values()) if isinstance(worth, dict) else worth
                        self.assertFalse([one for one in inner if isinstance(one, (list, dict))], (name, node.lineno))

    def test_lists_and_tables_at_the_top_are_not_changed(self):
        for name, tree in trees():
            names = {name for name in names_at_the_top(tree) + imported_names(tree) if name.isupper()}
            for node in ast.walk(tree):
                if isinstance(node, ast.Subscript) and isinstance(node.ctx, ast.Store) and isinstance(node.value, ast.Name):
                    self.assertNotIn(node.value.id, names, (name, node.lineno))
                if isinstance(node, ast.Call) and isinstance(node.func, ast.Attribute) and isinstance(node.func.value, ast.Name):
                    self.assertFalse(node.func.value.id in names and node.func.attr in NOT_TO_BE_MODIFIED, (name, node.lineno))

    def test_methods_and_attributes_have_unlike_names(self):
        for one in classes():
            methods = [node.name for node in one.body if isinstance(node, ast.FunctionDef)]
            self.assertEqual(len(methods), len(set(methods)), one.name)
            self.assertLessEqual({name for name in methods if name.startswith("__")}, {"__init__"})
            self.assertFalse(set(methods) & attributes_stored(one), one.name)
            self.assertFalse((set(methods) - {"__init__", "remove"}) & METHODS_OF_VALUES - {"add"}, one.name)
            self.assertFalse(attributes_stored(one) & METHODS_OF_VALUES, one.name)

    def test_attributes_that_are_read_are_set_by_some_class(self):
        stored = set().union(*(attributes_stored(one) for one in classes()))
        for name, tree in trees():
            for node, parent in with_parents(tree):
                if isinstance(node, ast.Attribute) and isinstance(node.ctx, ast.Load) and not (isinstance(parent, ast.Call) and parent.func is node):
                    self.assertIn(node.attr, stored, (name, node.lineno))

    def test_a_class_sets_all_its_attributes_when_it_is_created(self):
        for one in classes():
            first = [node for node in one.body if isinstance(node, ast.FunctionDef) and node.name == "__init__"]
            self.assertLessEqual(attributes_stored(one), set().union(*map(attributes_stored, first)), one.name)

    def test_calls_pass_what_is_taken(self):
        taken = {}
        for name, tree in trees():
            for node in tree.body:
                if isinstance(node, ast.FunctionDef):
                    taken[node.name] = taken.get(node.name, set()) | {len(node.args.args)}
                    self.assertEqual((node.args.defaults, node.args.vararg, node.args.kwarg, node.args.kwonlyargs), ([], None, None, []))
        for name, tree in trees():
            for node in ast.walk(tree):
                if called(node) in taken and called(node) in names_at_the_top(tree) + imported_names(tree):
                    self.assertIn(len(node.args) + len(node.keywords), taken[called(node)], (name, node.lineno))

    def test_text_is_ascii_without_odd_escapes(self):
        for name, tree in trees():
            for node in ast.walk(tree):
                if isinstance(node, ast.Constant) and isinstance(node.value, str):
                    self.assertTrue(all(sign == "\n" or " " <= sign <= "~" for sign in node.value), (name, node.lineno))
                    self.assertFalse(node.value.startswith("__"), (name, node.lineno))
