"""[2], [15]: normal tables, and smallest trees that part two tables."""

import functools
import itertools
import unittest

from tests import samples
from tests.samples import (
    EIGHT, EMPTY, full_table, full_tree, is_tree, key_of, lists, near_entry, near_table, paths_of, quick, seeded,
    tables_of, trees_up_to, without,
)
from variantnest.normal import alike, normal
from variantnest.tables import make_table

X = ((("x", 1),), ())
FEW = (
    ("set", (), "x", 1), ("drop", (), "x"), ("set", ("a",), "x", 1), ("set", ("a",), "x", 2), ("drop", ("a",), "x"),
    ("hide", ("a",)), ("hide", ("a", "b")), ("put", ("a",), EMPTY), ("put", ("a",), X), ("put", ("a", "b"), EMPTY),
    ("put", ("a", "b"), X), ("set", ("a", "b"), "x", 1),
)
# Ids and props of FEW, and another prop that none of its entries names.
TREES = trees_up_to(3, ("a", "b"), ((), X[0], (("x", 2),), (("z", 0),)))


class Normal(unittest.TestCase):

    def leaves(self, entries, result):
        for some in itertools.islice(itertools.permutations(entries), 24):
            for _ in range(2):
                self.assertEqual(normal(some), make_table(result))
            self.assertEqual(normal(lists(some)), make_table(result))

    def test_nothing_to_leave_out(self):
        self.leaves([], [])
        table = [
            ("set", (), "x", 1), ("drop", ("a",), "x"), ("put", ("a",), X), ("set", ("a", "b"), "x", 1),
            ("put", ("a", "b"), X), ("hide", ("b",)),
        ]
        self.leaves(table, table)

    def test_below_a_hide_entry(self):
        hide = ("hide", ("a",))
        for entry in (
            ("set", ("a", "b"), "x", 1), ("drop", ("a", "b"), "x"), ("hide", ("a", "b")), ("put", ("a", "b"), X),
            ("set", ("a", "b", "c"), "x", 1), ("hide", ("a", *EIGHT[1:])), ("put", ("a", "b", "c"), X),
        ):
            self.leaves([hide, entry], [hide])

    def test_at_the_path_of_a_hide_entry(self):
        hide, put = ("hide", ("a", "b")), ("put", ("a", "b"), X)
        self.leaves([hide, put, ("set", ("a", "b"), "x", 1), ("drop", ("a", "b"), "y")], [hide, put])

    def test_elsewhere(self):
        table = [
            ("hide", ("a", "b")), ("set", ("a",), "x", 1), ("drop", (), "x"), ("put", ("a",), X), ("hide", ("a", "c")),
            ("set", ("a", "bb"), "x", 1), ("hide", ("aa", "b")), ("put", ("b", "a"), X), ("hide", ("b",)),
        ]
        self.leaves(table, [entry for entry in table if entry[1] != ("b", "a")])

    def test_below_a_hide_entry_that_is_left_out(self):
        self.leaves([("hide", ("a",)), ("hide", ("a", "b")), ("set", ("a", "b"), "x", 1)], [("hide", ("a",))])

    def test_twice(self):
        rng = seeded(31)
        for _ in range(500):
            table = normal(near_table(rng, 12))
            self.assertEqual(normal(table), table)


class Effects(unittest.TestCase):
    """All tables of few entries, over all trees that could part them."""

    @classmethod
    def setUpClass(cls):
        numbers = {}
        cls.tables = list(tables_of(FEW, 3))
        cls.effects = {}
        for table in cls.tables:
            made = [samples.applied(table, tree) for tree in TREES]
            cls.effects[table] = tuple(numbers.setdefault(tree, len(numbers)) for tree in made)

    def test_normal_leaves_out_what_does_nothing(self):
        for table in self.tables:
            found = normal(table)
            self.assertLessEqual(set(found), set(table))
            self.assertEqual(self.effects[found], self.effects[table])
            for entry in found:
                self.assertNotEqual(self.effects[without(found, entry)], self.effects[found], (found, entry))

    def test_the_same_effect_and_the_same_normal_form(self):
        normals = {table: normal(table) for table in self.tables}
        forms = {}
        for table in self.tables:
            forms.setdefault(self.effects[table], set()).add(normals[table])
        self.assertTrue(all(len(some) == 1 for some in forms.values()))
        self.assertEqual(len(forms), len(set(normals.values())))
        self.assertLess(len(forms), len(self.tables))

    def test_alike(self):
        sizes = [len(paths_of(tree)) for tree in TREES]
        found_sizes = set()
        for one, other in list(itertools.product(self.tables, repeat=2))[::7]:
            found = alike(one, other)
            parted = (size for size, *pair in zip(sizes, self.effects[one], self.effects[other]) if pair[0] != pair[1])
            least = next(parted, None)
            self.assertEqual(found is None, least is None, (one, other))
            if found is not None:
                self.assertEqual(len(paths_of(found)), least, (one, other))
                self.assertNotEqual(samples.applied(one, found), samples.applied(other, found), (one, other))
            found_sizes.add(least)
        self.assertEqual(found_sizes, {None, 1, 2, 3})


@functools.lru_cache(maxsize=None)
def small_trees(many):
    props = ((), (("x", 1),), (("x", 3), ("y", 3)), (("z", 0),))
    return trees_up_to(many, ("a", "ab", "b") if many < 3 else ("a", "b"), props)


class Alike(unittest.TestCase):

    def part(self, one, other, many):
        """Checks the trees, which have so many nodes, or that there is none."""
        for first, second in ((one, other), (other, one), (one[::-1], lists(other)), (lists(other), one[::-1])):
            found = alike(first, second)
            self.assertEqual(alike(first, second), found)
            if many is None:
                self.assertIs(found, None)
                continue
            self.assertIs(is_tree(found), True)
            self.assertEqual(len(paths_of(found)), many)
            self.assertNotEqual(samples.applied(make_table(one), found), samples.applied(make_table(other), found))

    def test_the_same(self):
        hide = ("hide", ("a",))
        table = [("set", (), "x", 1), hide, ("put", ("a",), X)]
        self.part([], [], None)
        self.part(table, table[::-1], None)
        self.part(table, [*table, ("set", ("a",), "x", 2), ("hide", ("a", "b")), ("put", ("a", "b"), X)], None)
        self.part([hide, ("drop", ("a",), "x")], [hide, ("set", ("a", "b"), "x", 1)], None)

    def test_one_entry_more(self):
        for path in ((), ("a",), ("a", "b"), EIGHT):
            self.part([], [("set", path, "x", 0)], len(path) + 1)
            self.part([], [("drop", path, "x")], len(path) + 1)
            if path:
                self.part([], [("hide", path)], len(path) + 1)
                self.part([], [("put", path, EMPTY)], len(path))

    def test_another_value(self):
        for path in ((), ("a", "b"), EIGHT):
            entries = [
                ("set", path, "x", 0), ("set", path, "x", 1), ("set", path, "x", "a"), ("drop", path, "x"),
                ("set", path, "x", ("link", ())), ("set", path, "y", 0), ("drop", path, "y"),
            ]
            for one, other in itertools.combinations(entries, 2):
                self.part([one], [other], len(path) + 1)

    def test_another_put_tree(self):
        trees = (EMPTY, X, ((("x", 2),), ()), ((), (("a", EMPTY),)), ((), (("a", X),)))
        for path in (("a",), ("a", "b"), ("a", "b", "c")):
            for one, other in itertools.combinations(trees, 2):
                self.part([("put", path, one)], [("put", path, other)], len(path))
                self.part([("put", path, one), ("hide", path)], [("put", path, other), ("hide", path)], len(path))

    def test_hide_and_put_against_put(self):
        for path in (("a",), ("a", "b"), EIGHT):
            for tree in (EMPTY, X):
                put = ("put", path, tree)
                self.part([("hide", path), put], [put], len(path) + 1)
                self.part([("hide", path), put], [("hide", path)], len(path))

    def test_hide_and_put_against_set_and_drop(self):
        put = ("put", ("a",), X)
        self.part([("hide", ("a",)), put], [put, ("set", ("a",), "x", 1)], 2)
        self.part([("hide", ("a",)), put], [put, ("set", ("a",), "x", 1), ("drop", ("a",), "a")], 2)
        names = [*"abcdefghijklmnopqrstuvwyz", *[one + other for one in "abc" for other in "abcde"]]
        drops = [("drop", ("a",), name) for name in names]
        self.part([("hide", ("a",)), put], [put, ("set", ("a",), "x", 1), *drops[:39]], 2)
        self.part([("hide", ("a",)), put], [put, ("set", ("a",), "x", 1), *drops[:26], *drops[27:]], 2)
        for many in (0, 1, 2, 25, 26, 27, 28):
            left = sorted(names[many:many + 3])
            rest = [entry for entry in drops[:many] if entry[2] not in left]
            for some in (left, left[:1]):
                for worth in (0, 1):
                    put = ("put", ("a",), (tuple((name, worth) for name in some), ()))
                    self.part([("hide", ("a",)), put], [put, *rest], 2)
        many = ("put", ("a",), (tuple((name, 0) for name in sorted(names)), ()))
        self.part([("hide", ("a",)), many], [many], 2)
        sets = [("set", ("a",), name, 0) for name in names]
        self.part([("hide", ("a",)), many], [many, *sets], 2)

    def test_hide_and_put_against_put_below(self):
        put = ("put", ("a",), ((), (("b", EMPTY),)))
        for entry in (("put", ("a", "b"), EMPTY), ("put", ("a", "b"), X)):
            self.part([("hide", ("a",)), put], [put, entry], 2)
            self.part([("hide", ("a",)), put, entry], [put, entry, ("set", ("a",), "x", 1)], 2)

    def test_more_names_than_two_letters_make(self):
        letters = "abcdefghijklmnopqrstuvwxyz"
        names = [*letters, *["".join(pair) for pair in itertools.product(letters, repeat=2)]]
        for left in ([], ["zz"], ["z", "az"]):
            props = tuple((name, 0) for name in sorted(names) if name not in left)
            put = ("put", ("a",), (props, ()))
            one, other = (("hide", ("a",)), put), (put, *[("drop", ("a",), name) for name in left])
            found = alike(one, other)
            self.assertEqual(len(paths_of(found)), 2)
            self.assertNotEqual(samples.applied(one, found), samples.applied(other, found))
            self.assertIs(is_tree(found), True)

    def test_as_few_nodes_as_possible(self):
        self.part([("hide", ("a",))], [("hide", ("a", "b"))], 2)
        self.part([("hide", ("a",))], [("set", ("a", "b"), "x", 1)], 2)
        self.part([("hide", ("a",)), ("hide", ("b",))], [("hide", ("a", "b")), ("hide", ("b",))], 2)
        self.part([("hide", ("a",))], [("put", ("a", "b"), X)], 2)
        self.part([("hide", ("a",)), ("put", ("a",), EMPTY)], [("put", ("a",), EMPTY), ("put", ("a", "b"), X)], 2)
        self.part([("hide", ("a", "b"))], [("put", ("b",), X)], 1)
        self.part([("set", ("a",), "x", 1), ("set", EIGHT, "x", 1)], [("set", EIGHT, "x", 2)], 2)
        self.part([("put", ("a", "b", "c"), X)], [("set", ("b",), "x", 1)], 2)

    def test_by_a_search(self):
        rng = seeded(32)
        seen = []
        for _ in range(250):
            one = near_table(rng)
            rows = {key_of(entry): entry for entry in one}
            for _ in range(rng.choice((1, 1, 2, 3))):
                entry = near_entry(rng)
                if rng.random() < 0.3:
                    rows.pop(key_of(entry), None)
                else:
                    rows[key_of(entry)] = entry
            other = make_table(list(rows.values()))
            found = alike(one, other)
            self.assertEqual(found is None, normal(one) == normal(other))
            if found is not None:
                seen.append(len(paths_of(found)))
                self.assertNotEqual(samples.applied(one, found), samples.applied(other, found))
            for tree in small_trees(3 if found is None else min(seen[-1] - 1, 3)):
                self.assertEqual(samples.applied(one, tree), samples.applied(other, tree), (one, other))
        self.assertLessEqual({1, 2, 3, 4}, set(seen))

    def test_full_tables(self):
        rng = seeded(33)
        for many in (40, 600):
            one = full_table(rng, full_tree(400), many)
            for at in range(0, many, 7):
                other = (*one[:at], *one[at + 1:])
                found = quick(self, 0.5, alike, one, other)
                self.assertEqual(found is None, one[at] not in normal(one))
                if found is not None:
                    self.assertNotEqual(samples.applied(one, found), samples.applied(other, found))
