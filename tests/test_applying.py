"""[13], [14]: what tables make of trees, and the words of entries."""

import itertools
import unittest

from tests import samples
from tests.samples import (
    EIGHT, EMPTY, chain, full_table, full_tree, lists, near_table, near_tree, quick, seeded, some_table, some_tree,
    tables_of, trees_up_to, without,
)
from variantnest.applying import applied, entry_words
from variantnest.tables import make_table
from variantnest.trees import is_tree, make_tree

X = ((("x", 1),), ())
LAMP = make_tree(
    [("on", 1), ("to", ("link", ("bulb",)))],
    [
        ("bulb", make_tree([("watts", 40)], [("wire", make_tree([("x", 1)]))])),
        ("bulbs", make_tree([("watts", 40)])),
        ("cord", make_tree([], [("bulb", make_tree([("watts", 40)]))])),
    ],
)
FEW = (
    ("set", (), "x", 1), ("drop", (), "x"), ("set", ("a",), "x", 1), ("drop", ("a",), "x"), ("hide", ("a",)),
    ("hide", ("a", "b")), ("put", ("a",), EMPTY), ("put", ("a",), X), ("put", ("a", "b"), EMPTY),
    ("set", ("a", "b"), "x", 2),
)


def told(table, tree):
    """The words of entries as [14] defines them."""
    rows = samples.kept(table, tree)
    found = []
    for entry in table:
        path = entry[1]
        others = [some[1] for some in table if some[0] == "hide" and some != entry]
        if entry[0] == "put":
            rests = path[:-1] not in rows or path in rows
        elif entry[0] == "hide":
            above = [some for some in others if path[:len(some)] == some]
            rests = path not in samples.paths_of(tree) or above != []
        else:
            rests = path not in rows
        same = samples.applied(without(table, entry), tree) == samples.applied(table, tree)
        found.append((entry, "rests" if rests else "same" if same else "acts"))
    return found


class Applied(unittest.TestCase):

    def makes(self, entries, tree, result):
        for some in itertools.islice(itertools.permutations(entries), 24):
            for _ in range(2):
                self.assertEqual(applied(some, tree), result)
            self.assertEqual(applied(lists(some), lists(tree)), result)
            self.assertEqual(samples.applied(some, tree), result)

    def test_the_example(self):
        tree = make_tree([("x", 1)], [("a", make_tree([("y", 2)]))])
        table = [("put", ("a",), make_tree()), ("set", ("a",), "y", 3)]
        self.makes(table, tree, make_tree([("x", 1)], [("a", make_tree([("y", 3)]))]))
        self.makes([*table, ("hide", ("a",))], tree, make_tree([("x", 1)], [("a", make_tree())]))

    def test_no_entries(self):
        self.makes([], LAMP, LAMP)
        self.makes([], EMPTY, EMPTY)

    def test_props(self):
        link = ("link", ("gone", "far"))
        table = [
            ("set", (), "on", 0), ("set", (), "new", link), ("drop", (), "to"), ("drop", (), "gone"),
            ("set", ("bulb", "wire"), "a", "on"), ("drop", ("bulb",), "watts"), ("set", ("bulb",), "watt", 60),
        ]
        self.makes(table, LAMP, make_tree([("new", link), ("on", 0)], [
            ("bulb", make_tree([("watt", 60)], [("wire", make_tree([("a", "on"), ("x", 1)]))])), *LAMP[1][1:],
        ]))

    def test_props_of_no_node(self):
        self.makes([("set", ("x",), "x", 1), ("drop", ("bulb", "x"), "x"), ("set", EIGHT, "x", 1)], LAMP, LAMP)

    def test_hide(self):
        self.makes([("hide", ("bulb",))], LAMP, (LAMP[0], LAMP[1][1:]))
        self.makes([("hide", ("bulb", "wire")), ("hide", ("bulbs",)), ("hide", ("cord", "bulb"))], LAMP, make_tree(
            LAMP[0], [("bulb", make_tree([("watts", 40)])), ("cord", EMPTY)],
        ))
        self.makes([("hide", (name,)) for name in ("bulb", "bulbs", "cord")], LAMP, (LAMP[0], ()))

    def test_hide_no_node(self):
        self.makes([("hide", ("bul",)), ("hide", ("bulb", "bulb")), ("hide", ("wire",))], LAMP, LAMP)

    def test_below_a_hidden_node(self):
        table = [
            ("hide", ("bulb",)), ("hide", ("bulb", "wire")), ("set", ("bulb",), "x", 1), ("drop", ("bulb",), "watts"),
            ("set", ("bulb", "wire"), "x", 2), ("put", ("bulb", "new"), X), ("put", ("bulb", "wire"), X),
        ]
        self.makes(table, LAMP, (LAMP[0], LAMP[1][1:]))

    def test_put(self):
        table = [("put", ("new",), LAMP), ("put", ("bulb", "wires"), X), ("put", ("cord", "a"), EMPTY)]
        self.makes(table, LAMP, make_tree(LAMP[0], [
            ("bulb", make_tree(LAMP[1][0][1][0], [*LAMP[1][0][1][1], ("wires", X)])), LAMP[1][1],
            ("cord", make_tree([], [("a", EMPTY), *LAMP[1][2][1][1]])), ("new", LAMP),
        ]))

    def test_put_where_a_node_is_kept(self):
        self.makes([("put", ("bulb",), X), ("put", ("bulb", "wire"), EMPTY)], LAMP, LAMP)

    def test_put_where_a_node_is_hidden(self):
        table = [("put", ("bulb",), X), ("hide", ("bulb",))]
        self.makes(table, LAMP, (LAMP[0], (("bulb", X), *LAMP[1][1:])))
        self.makes(table, EMPTY, ((), (("bulb", X),)))

    def test_put_where_no_node_is_above(self):
        self.makes([("put", ("x", "y"), X), ("put", ("bulb", "x", "y"), X)], LAMP, LAMP)
        self.makes([("put", ("bulb", "x"), X), ("hide", ("bulb",))], LAMP, (LAMP[0], LAMP[1][1:]))

    def test_put_entries_do_not_change_what_others_put(self):
        table = [
            ("put", ("a",), ((("y", 2),), (("b", X),))), ("set", ("a",), "x", 5), ("drop", ("a",), "y"),
            ("put", ("a", "c"), X), ("put", ("a", "b"), EMPTY), ("hide", ("a", "b")), ("set", ("a", "b"), "x", 5),
        ]
        self.makes(table, EMPTY, ((), (("a", table[0][2]),)))
        self.makes(table, chain("ab", X[0]), ((), (("a", ((("x", 5),), (("b", EMPTY), ("c", X)))),)))
        self.makes([*table, ("hide", ("a",))], chain("ab", X[0]), ((), (("a", table[0][2]),)))

    def test_ids_that_begin_with_the_same_letters(self):
        tree = make_tree([], [("a", X), ("aa", X), ("ab", make_tree([], [("a", X)]))])
        table = [("hide", ("a",)), ("drop", ("ab", "a"), "x"), ("put", ("a",), EMPTY), ("put", ("ab", "aa"), X)]
        self.makes(table, tree, make_tree([], [
            ("a", EMPTY), ("aa", X), ("ab", make_tree([], [("a", EMPTY), ("aa", X)])),
        ]))

    def test_longest_paths(self):
        tree = chain(EIGHT)
        self.makes([("set", EIGHT, "x", 1)], tree, chain(EIGHT, X[0]))
        self.makes([("hide", EIGHT), ("put", EIGHT, X)], tree, chain(EIGHT, X[0]))
        self.makes([("hide", EIGHT)], tree, chain(EIGHT[:7]))
        self.makes([("put", EIGHT, X)], chain(EIGHT[:7]), chain(EIGHT, X[0]))
        self.makes([("put", ("a",), chain(EIGHT[1:], X[0]))], EMPTY, chain(EIGHT, X[0]))

    def test_all_small_trees(self):
        trees = trees_up_to(3, ("a", "b"), ((), (("x", 2),)))
        for table in tables_of(FEW, 3):
            for tree in trees:
                self.assertEqual(applied(table, tree), samples.applied(table, tree))

    def test_many_trees(self):
        rng = seeded(21)
        for _ in range(1500):
            table, tree = near_table(rng, 12), near_tree(rng)
            found = applied(rng.sample(table, len(table)), tree)
            self.assertEqual(found, samples.applied(table, tree))
            self.assertIs(is_tree(found), True)
        for _ in range(300):
            table, tree = some_table(rng), some_tree(rng)
            self.assertEqual(applied(table, tree), samples.applied(table, tree))

    def test_full_trees(self):
        rng = seeded(22)
        for many in (60, 400):
            tree = full_tree(many)
            table = full_table(rng, tree, 40)
            found = quick(self, 0.5, applied, table, tree)
            self.assertEqual(found, samples.applied(table, tree))

    def test_more_than_the_limits(self):
        rng = seeded(23)
        tree = full_tree(420)
        table = full_table(rng, tree, 600)
        self.assertEqual(applied(table, tree), samples.applied(table, tree))
        table = [("put", (one + other,), full_tree(60)) for one in "xyz" for other in "xyz"]
        self.assertEqual(len(samples.paths_of(applied(table, full_tree(60)))), 600)


class EntryWords(unittest.TestCase):

    def says(self, entries, tree, words):
        """Checks the words, which are passed in the order of the entries."""
        result = [(entry, dict(zip(entries, words))[entry]) for entry in make_table(entries)]
        for some in itertools.islice(itertools.permutations(entries), 24):
            for _ in range(2):
                self.assertEqual(entry_words(some, tree), result)
            self.assertEqual(entry_words(lists(some), lists(tree)), result)
        self.assertEqual(told(make_table(entries), tree), result)

    def test_no_entries(self):
        self.says([], LAMP, [])

    def test_set(self):
        self.says([
            ("set", (), "on", 1), ("set", (), "to", ("link", ("bulb",))), ("set", ("bulb",), "watts", 60),
            ("set", ("cord",), "watts", 40), ("set", ("x",), "on", 1), ("set", ("bulb", "wire", "x"), "on", 1),
        ], LAMP, ["same", "same", "acts", "acts", "rests", "rests"])

    def test_drop(self):
        self.says([
            ("drop", (), "on"), ("drop", (), "off"), ("drop", ("bulb", "wire"), "x"), ("drop", ("bulb", "wire"), "y"),
            ("drop", ("x",), "on"),
        ], LAMP, ["acts", "same", "acts", "same", "rests"])

    def test_hide(self):
        self.says([
            ("hide", ("bulb",)), ("hide", ("bulb", "wire")), ("hide", ("x",)), ("hide", ("bulb", "x")),
            ("hide", ("bulbs",)),
        ], LAMP, ["acts", "rests", "rests", "rests", "acts"])

    def test_put(self):
        self.says([
            ("put", ("new",), EMPTY), ("put", ("bulb",), EMPTY), ("put", ("bulbs",), LAMP[1][1][1]),
            ("put", ("x", "y"), X), ("put", ("cord", "x"), X),
        ], LAMP, ["acts", "rests", "rests", "rests", "acts"])

    def test_at_and_below_a_hide_entry(self):
        self.says([
            ("hide", ("bulb",)), ("set", ("bulb",), "watts", 40), ("drop", ("bulb",), "x"), ("put", ("bulb",), X),
            ("put", ("bulb", "x"), X), ("put", ("bulb", "wire"), X), ("set", ("bulb", "wire"), "x", 2),
            ("hide", ("bulb", "wire")),
        ], LAMP, ["acts", "rests", "rests", "acts", "rests", "rests", "rests", "rests"])

    def test_what_is_put_is_what_was_hidden(self):
        hide, put = ("hide", ("bulb",)), ("put", ("bulb",), LAMP[1][0][1])
        self.says([hide, put], LAMP, ["same", "acts"])
        self.says([hide, put], EMPTY, ["rests", "acts"])
        self.says([put], LAMP, ["rests"])
        self.says([hide], LAMP, ["acts"])

    def test_what_is_put_is_what_would_be_kept(self):
        hide, put = ("hide", ("bulb",)), ("put", ("bulb",), ((("x", 1),), (("a", X),)))
        rest = [
            ("set", ("bulb",), "x", 1), ("drop", ("bulb",), "watts"), ("hide", ("bulb", "wire")),
            ("put", ("bulb", "a"), X),
        ]
        self.says([hide, put, *rest], LAMP, ["same", "acts", "rests", "rests", "rests", "rests"])
        for left in rest:
            some = [entry for entry in rest if entry != left]
            self.says([hide, put, *some], LAMP, ["acts", "acts", "rests", "rests", "rests"])

    def test_entries_below_a_put_entry(self):
        self.says([
            ("put", ("a",), X), ("set", ("a",), "x", 2), ("drop", ("a",), "y"), ("hide", ("a", "b")),
            ("put", ("a", "b"), X), ("hide", ("a",)),
        ], EMPTY, ["acts", "rests", "rests", "rests", "rests", "rests"])

    def test_the_order_is_that_of_the_keys(self):
        table = [("set", ("a",), "x", 1), ("put", ("a",), X), ("drop", (), "x"), ("hide", ("b",)), ("set", (), "a", 1)]
        found = [entry for entry, _ in entry_words(table, EMPTY)]
        self.assertEqual(found, [table[3], table[4], table[2], table[0], table[1]])

    def test_all_small_trees(self):
        trees = trees_up_to(3, ("a", "b"), ((), (("x", 1),)))
        seen = set()
        for table in tables_of(FEW, 3):
            for tree in trees[::2]:
                found = entry_words(table, tree)
                self.assertEqual(found, told(table, tree))
                seen.update((entry[0], word) for entry, word in found)
        pairs = set(itertools.product(("set", "drop", "hide", "put"), ("acts", "rests", "same")))
        self.assertEqual(seen, pairs - {("put", "same")})

    def test_many_trees(self):
        rng = seeded(24)
        for _ in range(800):
            table, tree = near_table(rng, 12), near_tree(rng)
            self.assertEqual(entry_words(rng.sample(table, len(table)), tree), told(table, tree))

    def test_full_trees(self):
        rng = seeded(25)
        tree = full_tree(60)
        table = full_table(rng, tree, 40)
        found = quick(self, 0.5, entry_words, table, tree)
        self.assertEqual(found, told(table, tree))
        tree = full_tree(400)
        table = full_table(rng, tree, 600)
        self.assertEqual([entry for entry, _ in entry_words(table, tree)], list(table))
