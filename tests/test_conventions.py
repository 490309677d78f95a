"""[3] to [7] and the interface: what holds for all functions that there are."""

import copy
import inspect
import unittest

from tests.samples import EIGHT, EMPTY, HUGE, chain, deep, lists
from tests.shelf import P, shelf
from variantnest import applying, between, composing, desk, normal, pieces, tables, texts, trees, values
from variantnest import library as libraries
from variantnest.errors import VariantError

TREE = (
    (("rank", 1), ("to", ("link", ("gone",)))),
    (("a", ((("rank", 7),), ())), ("b", ((), (("c", EMPTY),)))),
)
TABLE = (("hide", ("b",)), ("set", ("a",), "x", 1), ("put", ("a",), TREE))
KEY = ("prop", ("a",), "x")
SET, DROP, HIDE, PUT = ("set", (), "x", 2), ("drop", (), "rank"), ("hide", ("b",)), ("put", ("d",), EMPTY)
MADE = (
    (("to", ("link", ("gone",))), ("x", 2)),
    (("a", ((("rank", 7),), ())), ("d", EMPTY)),
)

# Each function of the interface: its module, its parameters, what is passed, the result.
CALLS = (
    (values.is_name, ("value",), ("lamp",), True),
    (values.is_path, ("value",), (("a", "b"),), True),
    (values.is_value, ("value",), (("link", ("a",)),), True),
    (trees.is_tree, ("value",), (TREE,), True),
    (trees.make_tree, ("props", "children"), (TREE[0][::-1], TREE[1][::-1]), TREE),
    (trees.nodes, ("tree",), (TREE,), [(), ("a",), ("b",), ("b", "c")]),
    (trees.node, ("tree", "path"), (TREE, ("b",)), ((), (("c", EMPTY),))),
    (trees.in_order, ("tree", "path"), (TREE, ()), ["b", "a"]),
    (trees.loose, ("tree",), (TREE,), [((), "to")]),
    (trees.size, ("tree",), (TREE,), 7),
    (tables.is_entry, ("value",), (TABLE[2],), True),
    (tables.is_table, ("value",), (TABLE,), True),
    (tables.key_of, ("entry",), (TABLE[1],), KEY),
    (tables.make_table, ("entries",), (TABLE[::-1],), TABLE),
    (tables.entry_with, ("table", "key"), (TABLE, KEY), TABLE[1]),
    (tables.with_entry, ("table", "entry"), (TABLE[:2], TABLE[2]), TABLE),
    (tables.without_entry, ("table", "key"), (TABLE, KEY), (TABLE[0], TABLE[2])),
    (applying.applied, ("table", "tree"), ((SET, HIDE, PUT, DROP), TREE), MADE),
    (
        applying.entry_words, ("table", "tree"), ((PUT, SET, TABLE[2], ("set", (), "rank", 1)), TREE),
        [(("set", (), "rank", 1), "same"), (SET, "acts"), (TABLE[2], "rests"), (PUT, "acts")],
    ),
    (normal.normal, ("table",), ((PUT, ("set", ("b", "c"), "x", 1), HIDE, SET),), (HIDE, SET, PUT)),
    (normal.alike, ("one", "other"), ((PUT, ("set", ("b",), "x", 1), HIDE), (HIDE, PUT)), None),
    (composing.composed, ("one", "other"), ((DROP, HIDE), (PUT, SET)), (HIDE, DROP, SET, PUT)),
    (
        composing.merged, ("base", "one", "other"), ((DROP,), (HIDE, SET), (("set", ("b",), "x", 1), DROP)),
        ((HIDE, SET, ("set", ("b",), "x", 1)), [("under", ("prop", ("b",), "x"))]),
    ),
    (between.between, ("one", "other"), (TREE, MADE), (HIDE, DROP, SET, PUT)),
    (between.cost, ("table",), ((HIDE, SET, ("put", ("d",), TREE)),), 9),
    (between.common, ("trees",), ((TREE, MADE, TREE),), (TREE, 4)),
    (pieces.is_piece, ("value",), (("use", "t", 1, (HIDE, SET, ("put", ("d",), ("use", "u", 0, ())))),), True),
    (texts.tree_text, ("tree",), (MADE,), "{to=@gone, x=2, a{rank=7}, d{}}"),
    (texts.table_text, ("table",), ((PUT, SET, HIDE),), "hide b; set . x 2; put d {}"),
    (texts.piece_text, ("piece",), (("use", "t", 1, (HIDE, SET)),), "<t 1: hide b; set . x 2>"),
    (texts.read_tree, ("text",), ("{x=2, to=@gone, d{}, a{rank=7}}",), MADE),
    (texts.read_table, ("text",), ("put d {}; set . x 2; hide b",), (HIDE, SET, PUT)),
    (texts.read_piece, ("text",), ("<t 1: set . x 2; hide b>",), ("use", "t", 1, (HIDE, SET))),
)
FILES = {
    "variantnest.values": {"is_name", "is_path", "is_value"},
    "variantnest.trees": {"is_tree", "make_tree", "nodes", "node", "in_order", "loose", "size"},
    "variantnest.tables": {
        "is_entry", "is_table", "key_of", "make_table", "entry_with", "with_entry", "without_entry",
    },
    "variantnest.applying": {"applied", "entry_words"},
    "variantnest.normal": {"normal", "alike"},
    "variantnest.composing": {"composed", "merged"},
    "variantnest.between": {"between", "cost", "common"},
    "variantnest.pieces": {"is_piece"},
    "variantnest.texts": {"tree_text", "table_text", "piece_text", "read_tree", "read_table", "read_piece"},
}
# The functions and methods that take a library or belong to one; a default value stands behind =.
TAKING = {
    libraries.differences: "one other", libraries.replay: "steps", libraries.without: "library index",
    texts.library_text: "library", texts.read_library: "text",
}
METHODS = {
    "names": "", "definition": "name", "shown": "name release=0", "releases": "name", "uses": "name", "users": "name",
    "make": "name piece", "define": "name piece", "remove": "name", "rename_template": "name new",
    "change": "name entry", "reset": "name place key", "push": "name place key", "extract": "name path new",
    "inline": "name place", "share": "names new", "rename_child": "name path new",
    "rename_prop": "name path prop new", "release": "name", "upgrade": "name place release", "log": "name",
    "sources": "name path prop", "places": "name", "history": "", "would": "step", "undo": "", "redo": "", "copy": "",
}
# Deeds with what they return on the library below.
DEEDS = (
    ("make", ("v", P("{a{}}")), None), ("define", ("t", P("{x=1, a{}}")), None), ("remove", ("w",), None),
    ("rename_template", ("u", "v"), None), ("change", ("u", ("set", ("k", "a"), "x", 2)), None),
    ("reset", ("u", ("k",), ("hide", ("b",))), None),
    ("push", ("u", ("k",), ("hide", ("b",))), [("t", (("hide", ("b",)),))]), ("extract", ("t", ("a",), "v"), None),
    ("inline", ("u", ("k",)), None), ("share", (("t", "w"), "v"), None), ("rename_child", ("t", ("a",), "z"), None),
    ("rename_prop", ("t", ("a",), "x", "z"), None), ("release", ("t",), 2), ("upgrade", ("u", ("m",), 0), []),
)


def some_library():
    library = shelf("t {a{x=1}, b{}}", "u {k<t 0: hide b>}", "w {}")
    library.release("t")
    library.change("u", ("put", ("m",), P("<t 1: set a x 3>")))
    return library


def signature(function):
    rows = list(inspect.signature(function).parameters.values())
    return " ".join(row.name if row.default is row.empty else f"{row.name}={row.default}" for row in rows)


def outer(value):
    """A tuple as a list, but not what is in it."""
    return list(value) if isinstance(value, tuple) else value


def inner(value):
    """What is in a tuple as lists, but not itself."""
    return tuple(map(lists, value)) if isinstance(value, tuple) else value


def asks(function):
    return function.__name__.startswith("is_")


def changed(value):
    """Changes all lists in an object as far as they can be changed."""
    if isinstance(value, list):
        for item in value:
            changed(item)
        value[:] = ["changed", 1, *value[::-1]]
    if isinstance(value, tuple):
        for item in value:
            changed(item)


def kinds(value):
    """The value with each object replaced by its kind."""
    return (type(value), [kinds(item) for item in value]) if isinstance(value, (list, tuple)) else type(value)


class Interface(unittest.TestCase):

    def test_each_function_stands_in_its_file(self):
        found = {}
        for function, *_ in CALLS:
            found.setdefault(function.__module__, set()).add(function.__name__)
        self.assertEqual(found, FILES)

    def test_parameters(self):
        for function, names, *_ in CALLS:
            self.assertEqual(tuple(inspect.signature(function).parameters), names, function.__name__)
        defaults = [row.default for row in inspect.signature(trees.make_tree).parameters.values()]
        self.assertEqual(defaults, [(), ()])

    def test_functions_of_libraries(self):
        for function, parameters in TAKING.items():
            self.assertEqual(signature(function), parameters)
        for name in ("differences", "replay", "without"):
            self.assertEqual(getattr(libraries, name).__module__, "variantnest.library")
        for name in ("library_text", "read_library"):
            self.assertEqual(getattr(texts, name).__module__, "variantnest.texts")

    def test_classes(self):
        self.assertEqual(libraries.Library.__module__, "variantnest.library")
        self.assertEqual(desk.Desk.__module__, "variantnest.desk")
        self.assertEqual((signature(libraries.Library), signature(desk.Desk)), ("", ""))
        for name, parameters in METHODS.items():
            self.assertIn(name, vars(libraries.Library))
            self.assertEqual(signature(getattr(libraries.Library(), name)), parameters, name)
        self.assertIn("__eq__", vars(libraries.Library))
        for name, parameters in (("tell", "line"), ("library", "")):
            self.assertIn(name, vars(desk.Desk))
            self.assertEqual(signature(getattr(desk.Desk(), name)), parameters)


class Passing(unittest.TestCase):

    def test_by_position_by_keyword_and_again(self):
        for function, names, passed, result in CALLS:
            for _ in range(2):
                self.assertEqual(function(*passed), result, function.__name__)
                self.assertEqual(function(**dict(zip(names, passed))), result, function.__name__)

    def test_lists_for_tuples(self):
        for function, names, passed, result in CALLS:
            if asks(function):
                continue
            for some in (lists(passed), [outer(part) for part in passed], [inner(part) for part in passed]):
                self.assertEqual(function(*some), result, function.__name__)
                self.assertEqual(function(**dict(zip(names, some))), result, function.__name__)

    def test_lists_do_not_stand_for_tuples_where_is_asked(self):
        for function, _, passed, _ in CALLS:
            if asks(function) and isinstance(passed[0], tuple):
                self.assertIs(function(lists(passed[0])), False)
                self.assertIs(function(list(passed[0])), False)

    def test_tuples_come_back(self):
        for function, _, passed, result in CALLS:
            if not asks(function):
                self.assertEqual(kinds(function(*lists(passed))), kinds(result), function.__name__)

    def test_arguments_stay(self):
        for function, _, passed, _ in CALLS:
            some = lists(passed)
            before = copy.deepcopy(some)
            if asks(function):
                function(some[0])
            else:
                function(*some)
            self.assertEqual(some, before, function.__name__)

    def test_later_changes_of_what_was_passed(self):
        for function, _, passed, result in CALLS:
            if asks(function):
                continue
            some = lists(passed)
            found = function(*some)
            changed(some)
            self.assertEqual(found, result, function.__name__)
            self.assertEqual(function(*passed), result, function.__name__)

    def test_returned_lists_are_new(self):
        for function, _, passed, result in CALLS:
            if function.__name__ in ("nodes", "in_order", "loose", "entry_words", "merged"):
                changed(function(*passed))
                self.assertEqual(function(*passed), result, function.__name__)

    def test_questions_are_answered_with_truth_values(self):
        for function, _, passed, _ in CALLS:
            if asks(function):
                self.assertIs(function(*passed), True)
                for value in (True, False, None, "", [], [[]], (True,), (("x", True),)):
                    self.assertIs(function(value), False, function.__name__)


class Deeds(unittest.TestCase):

    def parameters(self, word):
        return METHODS[word].split(" ")

    def test_all_deeds_are_here(self):
        self.assertEqual([word for word, _, _ in DEEDS], [
            "make", "define", "remove", "rename_template", "change", "reset", "push", "extract", "inline", "share",
            "rename_child", "rename_prop", "release", "upgrade",
        ])

    def test_by_position_by_keyword_and_with_lists(self):
        for word, passed, result in DEEDS:
            states = []
            for some in (passed, [list(part) if isinstance(part, tuple) else part for part in passed], lists(passed)):
                for is_by_name in (False, True):
                    library = some_library()
                    deed = getattr(library, word)
                    found = deed(**dict(zip(self.parameters(word), some))) if is_by_name else deed(*some)
                    self.assertEqual(found, result, word)
                    self.assertIs(type(found), type(result))
                    self.assertEqual(library.history()[-1], (word, *passed))
                    self.assertEqual(kinds(library.history()[-1]), kinds((word, *passed)))
                    states.append(library)
            for library in states:
                self.assertTrue(library == states[0])

    def test_arguments_stay_and_may_change_later(self):
        for word, passed, result in DEEDS:
            some = lists(passed)
            before = copy.deepcopy(some)
            library = some_library()
            found = getattr(library, word)(*some)
            self.assertEqual(some, before)
            changed(some)
            changed(found)
            other = some_library()
            self.assertEqual(getattr(other, word)(*passed), result)
            self.assertTrue(library == other)
            self.assertEqual(library.history(), other.history())

    def test_equal_calls_in_equal_states(self):
        for word, passed, result in DEEDS:
            library = some_library()
            again = texts.read_library(texts.library_text(library))
            self.assertEqual(getattr(library, word)(*passed), getattr(again, word)(*passed))
            self.assertTrue(library == again)
            errors = []
            for some in (library, again):
                try:
                    getattr(some, word)(*passed)
                except VariantError as error:
                    errors.append((type(error), vars(error)))
            self.assertIn(len(errors), (0, 2))
            self.assertEqual(errors[:1], errors[1:])
            self.assertTrue(library == again)

    def test_deep_objects(self):
        for word, passed, _ in DEEDS:
            for at in range(len(passed)):
                for value in (deep(900), deep(900, list)):
                    library = some_library()
                    self.assertRaises(VariantError, getattr(library, word), *passed[:at], value, *passed[at + 1:])
                    self.assertRaises(VariantError, library.would, (word, *passed[:at], value, *passed[at + 1:]))
                    self.assertRaises(VariantError, libraries.replay, [(word, *passed[:at], value, *passed[at + 1:])])
        for value in (deep(900), deep(900, list)):
            library = some_library()
            for passed in ((value, (), "x"), ("t", value, "x"), ("t", (), value)):
                self.assertRaises(VariantError, library.sources, *passed)
            self.assertRaises(VariantError, library.shown, value)
            self.assertRaises(VariantError, library.shown, "t", value)
            self.assertRaises(VariantError, library.would, value)
            self.assertRaises(VariantError, libraries.replay, [value])
            self.assertRaises(VariantError, libraries.without, library, value)

    def test_questions_by_keyword(self):
        library = some_library()
        self.assertEqual(library.shown(release=1, name="t"), library.shown("t", 1))
        self.assertEqual(library.definition(name="w"), P("{}"))
        self.assertEqual(library.sources(prop="x", path=["k", "a"], name="u"), [("t", 0, (), "own", 1)])
        self.assertEqual(library.places(name="w"), [("w", ())])
        self.assertEqual(libraries.differences(one=library, other=some_library()), [])
        self.assertTrue(libraries.replay(steps=library.history()) == library)
        self.assertEqual(libraries.without(index=0, library=shelf("t {}")).names(), [])

    def test_no_result(self):
        library = some_library()
        self.assertIsNone(library.undo())
        self.assertIsNone(library.redo())


class Limits(unittest.TestCase):

    def wide(self, many):
        names = [one + other for one in "abcdefghijklmnopqrst" for other in "abcdefghijklmnopqrst"]
        return trees.make_tree((), [(name, trees.make_tree([("x", ("link", (name,)))])) for name in names[:many]])

    def test_wide_trees(self):
        for many in (60, 61, 399):
            tree = self.wide(many)
            self.assertEqual(len(trees.nodes(tree)), many + 1)
            self.assertEqual(trees.size(tree), 2 * many + 1)
            self.assertEqual(trees.loose(tree), [])
            self.assertEqual(len(trees.in_order(tree, ())), many)

    def test_deep_and_wide_trees(self):
        tree = EMPTY
        for level in range(8):
            tree = trees.make_tree([("x", level)], [("a", tree), ("b", EMPTY)])
        self.assertEqual(len(trees.nodes(tree)), 17)
        self.assertEqual(trees.node(tree, ("a",) * 8), EMPTY)
        self.assertRaises(trees.BadTree, trees.make_tree, (), [("a", tree)])

    def test_large_tables(self):
        tree = self.wide(399)
        entries = [("set", path, "x", HUGE) for path in trees.nodes(tree)]
        table = tables.make_table(entries[::-1])
        self.assertEqual(table, tuple(entries))
        self.assertIs(tables.is_table(table), True)
        self.assertEqual(tables.entry_with(table, ("prop", (), "x")), entries[0])
        self.assertEqual(len(tables.with_entry(table, ("put", ("a",), tree))), 401)
        self.assertEqual(len(tables.without_entry(table, ("prop", (), "x"))), 399)

    def test_large_integers(self):
        for value in (HUGE, -HUGE, HUGE * 10, -HUGE * 10 ** 20):
            self.assertIs(values.is_value(value), True)
            self.assertEqual(trees.make_tree([("x", value)]), ((("x", value),), ()))
            self.assertIs(tables.is_entry(("set", (), "x", value)), True)
            self.assertEqual(
                trees.in_order(((), (("a", ((("rank", value),), ())), ("b", EMPTY))), ()),
                ["a", "b"] if value < 0 else ["b", "a"],
            )

    def test_longest_paths(self):
        self.assertEqual(trees.node(chain(EIGHT), EIGHT), EMPTY)
        self.assertEqual(tables.make_table([("put", EIGHT, EMPTY)]), (("put", EIGHT, EMPTY),))
