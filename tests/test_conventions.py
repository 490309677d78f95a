"""[3] to [7] and the interface: what holds for all functions that there are."""

import copy
import inspect
import unittest

from tests.samples import EIGHT, EMPTY, HUGE, chain, lists
from variantnest import applying, between, composing, normal, tables, trees, values

TREE = (
    (("rank", 1), ("to", ("link", ("gone",)))),
    (("a", ((("rank", 7),), ())), ("b", ((), (("c", EMPTY),)))),
)
TABLE = (("hide", ("b",)), ("set", ("a",), "x", 1), ("put", ("a",), TREE))
KEY = ("prop", ("a",), "x")
SET, DROP, HIDE, PUT = ("set", (), "x", 2), ("drop", (), "rank"), ("hide", ("b",)), ("put", ("d",), EMPTY)
MADE = (
    (("to", ("link", ("gone",))), ("x", 2)),
    (("a", ((("rank", 7),), ())), ("d", EMPTY)),
)

# Each function of the interface: its module, its parameters, what is passed, the result.
CALLS = (
    (values.is_name, ("value",), ("lamp",), True),
    (values.is_path, ("value",), (("a", "b"),), True),
    (values.is_value, ("value",), (("link", ("a",)),), True),
    (trees.is_tree, ("value",), (TREE,), True),
    (trees.make_tree, ("props", "children"), (TREE[0][::-1], TREE[1][::-1]), TREE),
    (trees.nodes, ("tree",), (TREE,), [(), ("a",), ("b",), ("b", "c")]),
    (trees.node, ("tree", "path"), (TREE, ("b",)), ((), (("c", EMPTY),))),
    (trees.in_order, ("tree", "path"), (TREE, ()), ["b", "a"]),
    (trees.loose, ("tree",), (TREE,), [((), "to")]),
    (trees.size, ("tree",), (TREE,), 7),
    (tables.is_entry, ("value",), (TABLE[2],), True),
    (tables.is_table, ("value",), (TABLE,), True),
    (tables.key_of, ("entry",), (TABLE[1],), KEY),
    (tables.make_table, ("entries",), (TABLE[::-1],), TABLE),
    (tables.entry_with, ("table", "key"), (TABLE, KEY), TABLE[1]),
    (tables.with_entry, ("table", "entry"), (TABLE[:2], TABLE[2]), TABLE),
    (tables.without_entry, ("table", "key"), (TABLE, KEY), (TABLE[0], TABLE[2])),
    (applying.applied, ("table", "tree"), ((SET, HIDE, PUT, DROP), TREE), MADE),
    (
        applying.entry_words, ("table", "tree"), ((PUT, SET, TABLE[2], ("set", (), "rank", 1)), TREE),
        [(("set", (), "rank", 1), "same"), (SET, "acts"), (TABLE[2], "rests"), (PUT, "acts")],
    ),
    (normal.normal, ("table",), ((PUT, ("set", ("b", "c"), "x", 1), HIDE, SET),), (HIDE, SET, PUT)),
    (normal.alike, ("one", "other"), ((PUT, ("set", ("b",), "x", 1), HIDE), (HIDE, PUT)), None),
    (composing.composed, ("one", "other"), ((DROP, HIDE), (PUT, SET)), (HIDE, DROP, SET, PUT)),
    (
        composing.merged, ("base", "one", "other"), ((DROP,), (HIDE, SET), (("set", ("b",), "x", 1), DROP)),
        ((HIDE, SET, ("set", ("b",), "x", 1)), [("under", ("prop", ("b",), "x"))]),
    ),
    (between.between, ("one", "other"), (TREE, MADE), (HIDE, DROP, SET, PUT)),
    (between.cost, ("table",), ((HIDE, SET, ("put", ("d",), TREE)),), 9),
    (between.common, ("trees",), ((TREE, MADE, TREE),), (TREE, 4)),
)
FILES = {
    "variantnest.values": {"is_name", "is_path", "is_value"},
    "variantnest.trees": {"is_tree", "make_tree", "nodes", "node", "in_order", "loose", "size"},
    "variantnest.tables": {
        "is_entry", "is_table", "key_of", "make_table", "entry_with", "with_entry", "without_entry",
    },
    "variantnest.applying": {"applied", "entry_words"},
    "variantnest.normal": {"normal", "alike"},
    "variantnest.composing": {"composed", "merged"},
    "variantnest.between": {"between", "cost", "common"},
}


def asks(function):
    return function.__name__.startswith("is_")


def changed(value):
    """Changes all lists in an object as far as they can be changed."""
    if isinstance(value, list):
        for item in value:
            changed(item)
        value[:] = ["changed", 1, *value[::-1]]
    if isinstance(value, tuple):
        for item in value:
            changed(item)


def kinds(value):
    """The value with each object replaced by its kind."""
    return (type(value), [kinds(item) for item in value]) if isinstance(value, (list, tuple)) else type(value)


class Interface(unittest.TestCase):

    def test_each_function_stands_in_its_file(self):
        found = {}
        for function, *_ in CALLS:
            found.setdefault(function.__module__, set()).add(function.__name__)
        self.assertEqual(found, FILES)

    def test_parameters(self):
        for function, names, *_ in CALLS:
            self.assertEqual(tuple(inspect.signature(function).parameters), names, function.__name__)
        defaults = [row.default for row in inspect.signature(trees.make_tree).parameters.values()]
        self.assertEqual(defaults, [(), ()])


class Passing(unittest.TestCase):

    def test_by_position_by_keyword_and_again(self):
        for function, names, passed, result in CALLS:
            for _ in range(2):
                self.assertEqual(function(*passed), result, function.__name__)
                self.assertEqual(function(**dict(zip(names, passed))), result, function.__name__)

    def test_lists_for_tuples(self):
        for function, names, passed, result in CALLS:
            if asks(function):
                continue
            for some in (lists(passed), [list(part) for part in passed], [tuple(map(lists, part)) for part in passed]):
                self.assertEqual(function(*some), result, function.__name__)
                self.assertEqual(function(**dict(zip(names, some))), result, function.__name__)

    def test_lists_do_not_stand_for_tuples_where_is_asked(self):
        for function, _, passed, _ in CALLS:
            if asks(function) and isinstance(passed[0], tuple):
                self.assertIs(function(lists(passed[0])), False)
                self.assertIs(function(list(passed[0])), False)

    def test_tuples_come_back(self):
        for function, _, passed, result in CALLS:
            if not asks(function):
                self.assertEqual(kinds(function(*lists(passed))), kinds(result), function.__name__)

    def test_arguments_stay(self):
        for function, _, passed, _ in CALLS:
            some = lists(passed)
            before = copy.deepcopy(some)
            if asks(function):
                function(some[0])
            else:
                function(*some)
            self.assertEqual(some, before, function.__name__)

    def test_later_changes_of_what_was_passed(self):
        for function, _, passed, result in CALLS:
            if asks(function):
                continue
            some = lists(passed)
            found = function(*some)
            changed(some)
            self.assertEqual(found, result, function.__name__)
            self.assertEqual(function(*passed), result, function.__name__)

    def test_returned_lists_are_new(self):
        for function, _, passed, result in CALLS:
            if function.__name__ in ("nodes", "in_order", "loose", "entry_words", "merged"):
                changed(function(*passed))
                self.assertEqual(function(*passed), result, function.__name__)

    def test_questions_are_answered_with_truth_values(self):
        for function, _, passed, _ in CALLS:
            if asks(function):
                self.assertIs(function(*passed), True)
                for value in (True, False, None, "", [], [[]], (True,), (("x", True),)):
                    self.assertIs(function(value), False, function.__name__)


class Limits(unittest.TestCase):

    def wide(self, many):
        names = [one + other for one in "abcdefghijklmnopqrst" for other in "abcdefghijklmnopqrst"]
        return trees.make_tree((), [(name, trees.make_tree([("x", ("link", (name,)))])) for name in names[:many]])

    def test_wide_trees(self):
        for many in (60, 61, 399):
            tree = self.wide(many)
            self.assertEqual(len(trees.nodes(tree)), many + 1)
            self.assertEqual(trees.size(tree), 2 * many + 1)
            self.assertEqual(trees.loose(tree), [])
            self.assertEqual(len(trees.in_order(tree, ())), many)

    def test_deep_and_wide_trees(self):
        tree = EMPTY
        for level in range(8):
            tree = trees.make_tree([("x", level)], [("a", tree), ("b", EMPTY)])
        self.assertEqual(len(trees.nodes(tree)), 17)
        self.assertEqual(trees.node(tree, ("a",) * 8), EMPTY)
        self.assertRaises(trees.BadTree, trees.make_tree, (), [("a", tree)])

    def test_large_tables(self):
        tree = self.wide(399)
        entries = [("set", path, "x", HUGE) for path in trees.nodes(tree)]
        table = tables.make_table(entries[::-1])
        self.assertEqual(table, tuple(entries))
        self.assertIs(tables.is_table(table), True)
        self.assertEqual(tables.entry_with(table, ("prop", (), "x")), entries[0])
        self.assertEqual(len(tables.with_entry(table, ("put", ("a",), tree))), 401)
        self.assertEqual(len(tables.without_entry(table, ("prop", (), "x"))), 399)

    def test_large_integers(self):
        for value in (HUGE, -HUGE, HUGE * 10, -HUGE * 10 ** 20):
            self.assertIs(values.is_value(value), True)
            self.assertEqual(trees.make_tree([("x", value)]), ((("x", value),), ()))
            self.assertIs(tables.is_entry(("set", (), "x", value)), True)
            self.assertEqual(
                trees.in_order(((), (("a", ((("rank", value),), ())), ("b", EMPTY))), ()),
                ["a", "b"] if value < 0 else ["b", "a"],
            )

    def test_longest_paths(self):
        self.assertEqual(trees.node(chain(EIGHT), EIGHT), EMPTY)
        self.assertEqual(tables.make_table([("put", EIGHT, EMPTY)]), (("put", EIGHT, EMPTY),))
