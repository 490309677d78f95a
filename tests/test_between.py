"""[17]: tables between trees, their cost, and trees from which they cost least."""

import functools
import itertools
import unittest

from tests import samples
from tests.samples import (
    EIGHT, EMPTY, JUNK, chain, deep, full_tree, is_table, is_tree, lists, near_table, near_tree, paths_of, quick,
    refused, seeded, some_tree, trees_up_to, tuples, without,
)
from variantnest.applying import applied
from variantnest.between import between, common, cost
from variantnest.errors import BadTree
from variantnest.tables import make_table
from variantnest.trees import make_tree, size

X = ((("x", 1),), ())
SMALL = trees_up_to(3, ("a", "b"), ((), X[0], (("x", 2),)))


@functools.lru_cache(maxsize=None)
def distance(one, other):
    """What the table between two trees costs."""
    first, second = paths_of(one), paths_of(other)
    total = 0
    for path in first:
        if path in second:
            pairs = set(first[path].items()) ^ set(second[path].items())
            total += len({name for name, _ in pairs})
        elif path[:-1] in second:
            total += 1
    return total + sum(1 + len(second[path]) for path in second if path not in first)


class Between(unittest.TestCase):

    def check(self, one, other):
        found = between(one, other)
        self.assertIs(is_table(found), True)
        self.assertEqual(samples.applied(found, one), other)
        for entry in found:
            self.assertNotEqual(samples.applied(without(found, entry), one), other)
            if entry[0] == "hide":
                self.assertNotIn(entry[1], paths_of(other))
        return found

    def gives(self, one, other, result):
        for _ in range(2):
            self.assertEqual(between(one, other), make_table(result))
        self.assertEqual(between(lists(one), lists(other)), make_table(result))
        self.check(one, other)

    def test_equal_trees(self):
        for tree in (EMPTY, X, chain(EIGHT, X[0])):
            self.gives(tree, tree, [])

    def test_props(self):
        link = ("link", ("a",))
        one = make_tree([("a", 1), ("b", 1), ("c", link), ("d", "x")])
        other = make_tree([("a", 1), ("b", 2), ("c", ("link", ())), ("e", link)])
        self.gives(one, other, [
            ("set", (), "b", 2), ("set", (), "c", ("link", ())), ("drop", (), "d"), ("set", (), "e", link),
        ])
        self.gives(chain(EIGHT, one[0]), chain(EIGHT, ()), [("drop", EIGHT, name) for name in "abcd"])

    def test_children(self):
        one = make_tree([], [("a", X), ("b", X), ("c", make_tree([], [("d", X), ("e", X)]))])
        other = make_tree([], [("aa", X), ("b", EMPTY), ("c", make_tree([], [("e", X), ("f", one)]))])
        self.gives(one, other, [
            ("hide", ("a",)), ("put", ("aa",), X), ("drop", ("b",), "x"), ("hide", ("c", "d")),
            ("put", ("c", "f"), one),
        ])

    def test_whole_branches(self):
        tree = chain(EIGHT, X[0])
        self.gives(tree, EMPTY, [("hide", ("a",))])
        self.gives(EMPTY, tree, [("put", ("a",), tree[1][0][1])])

    def test_a_node_that_changes_wholly_is_not_put_anew(self):
        one, other = make_tree([], [("a", make_tree([("x", 1)], [("b", X)]))]), chain(("a", "c"), (("y", 1),))
        self.gives(one, other, [
            ("drop", ("a",), "x"), ("hide", ("a", "b")), ("put", ("a", "c"), ((("y", 1),), ())),
        ])

    def test_all_small_trees(self):
        for one, other in itertools.product(SMALL[::2], SMALL[::3]):
            self.check(one, other)

    def test_many_trees(self):
        rng = seeded(51)
        for _ in range(400):
            self.check(near_tree(rng), near_tree(rng))
            self.check(some_tree(rng), some_tree(rng))

    def test_full_trees(self):
        rng = seeded(52)
        for many in (60, 400, 450):
            one = full_tree(many)
            other = applied(near_table(rng, 12), full_tree(many + 7))
            found = quick(self, 0.5, between, one, other)
            self.assertEqual(samples.applied(found, one), other)


class Cost(unittest.TestCase):

    def test_each_kind(self):
        tree = make_tree([("x", 1), ("y", 2)], [("a", X), ("b", EMPTY)])
        for entry, costs in (
            (("set", (), "x", 10 ** 20), 1), (("set", EIGHT, "x", ("link", EIGHT)), 1), (("drop", EIGHT, "x"), 1),
            (("hide", EIGHT), 1), (("put", ("a",), EMPTY), 1), (("put", EIGHT, X), 2), (("put", ("a",), tree), 6),
        ):
            for _ in range(2):
                self.assertEqual(cost([entry]), costs)
            self.assertEqual(cost(lists([entry])), costs)

    def test_together(self):
        table = [("set", (), "x", 1), ("put", ("a",), X), ("drop", (), "y"), ("hide", ("a",)), ("put", ("b",), EMPTY)]
        for some in itertools.permutations(table):
            self.assertEqual(cost(some), 6)
        self.assertEqual(cost([]), 0)
        self.assertEqual(cost(()), 0)

    def test_what_normal_would_leave_out(self):
        self.assertEqual(cost([("hide", ("a",)), ("set", ("a",), "x", 1), ("hide", ("a", "b"))]), 3)

    def test_many_tables(self):
        rng = seeded(53)
        for _ in range(300):
            table = near_table(rng, 12)
            total = sum(size(entry[2]) if entry[0] == "put" else 1 for entry in table)
            self.assertEqual(cost(table), total)
            one, other = near_tree(rng), near_tree(rng)
            self.assertEqual(cost(between(one, other)), distance(one, other))

    def test_full_tables(self):
        table = [("put", ("a", one + other), full_tree(59)) for one in "abcdef" for other in "abcdef"]
        self.assertEqual(quick(self, 0.5, cost, table), 36 * 177)


class Common(unittest.TestCase):

    def check(self, trees, total=None):
        found = common(trees)
        for _ in range(2):
            self.assertEqual(common(lists(trees)), found)
        self.assertIs(type(found), tuple)
        tree, least = found
        self.assertIs(is_tree(tree), True)
        self.assertEqual(sum(cost(between(tree, other)) for other in tuples(trees)), least)
        if total is not None:
            self.assertEqual(least, total)
        return found

    def test_one_tree(self):
        for tree in (EMPTY, X, chain(EIGHT, X[0]), full_tree(60)):
            self.assertEqual(self.check([tree]), (tree, 0))

    def test_equal_trees(self):
        for many in range(2, 7):
            for tree in (EMPTY, X, chain(EIGHT, X[0])):
                self.assertEqual(self.check((tree,) * many), (tree, 0))

    def test_props(self):
        one, two = X, ((("x", 2),), ())
        self.assertEqual(self.check([one, two, one]), (one, 1))
        self.assertEqual(self.check([EMPTY, two, EMPTY]), (EMPTY, 1))
        self.assertEqual(self.check([EMPTY, two, EMPTY, two, one, two]), (two, 3))
        self.check([one, two], 1)
        self.check([one, two, EMPTY], 2)
        self.check([one, EMPTY], 1)
        self.check([((("x", "a"), ("y", 1)), ()), ((("x", "a"), ("z", 1)), ())], 2)

    def test_children(self):
        one, two = chain("a"), chain("a", X[0])
        self.assertEqual(self.check([one, one, EMPTY]), (one, 1))
        self.assertEqual(self.check([EMPTY, one, EMPTY]), (EMPTY, 1))
        self.assertEqual(self.check([two, EMPTY, two]), (two, 1))
        self.assertEqual(self.check([two, EMPTY]), (two, 1))
        self.assertEqual(self.check([two, EMPTY, EMPTY, two, EMPTY]), (two, 3))
        self.check([two, EMPTY, EMPTY], 2)
        self.assertEqual(self.check([two, EMPTY, EMPTY, EMPTY]), (EMPTY, 2))

    def test_one_large_child_against_many_without(self):
        large = ((), (("a", full_tree(20)),))
        self.assertEqual(self.check([large, EMPTY, EMPTY, EMPTY, EMPTY, EMPTY]), (large, 5))

    def test_children_that_have_little_in_common(self):
        trees = [((), (("a", ((("x", at), ("y", at), ("z", at)), ())),)) for at in range(3)]
        found = self.check(trees, 6)
        self.assertEqual([name for name, _ in found[0][1]], ["a"])
        trees = [chain(("a", name, "c"), X[0]) for name in "xyz"]
        # To hide two of the three is cheaper than to put one.
        below = [(name, chain("c", X[0])) for name in "xyz"]
        self.assertEqual(self.check(trees, 6)[0], make_tree([], [("a", make_tree([], below))]))

    def test_what_is_below_counts_only_where_the_child_is(self):
        one = make_tree([], [("a", make_tree([("x", 1)], [("b", X)]))])
        two = make_tree([], [("a", make_tree([("x", 1)], [("b", X)])), ("c", X)])
        self.assertEqual(self.check([one, two, one, EMPTY, EMPTY]), (one, 2 + 2))

    def test_by_a_search(self):
        rng = seeded(54)
        pool = trees_up_to(4, ("a", "b"), ((), X[0], (("x", 2),)))
        for many in range(1, 7):
            for _ in range(12):
                trees = [rng.choice(SMALL) for _ in range(many)]
                if many > 2 and rng.random() < 0.5:
                    trees[-1] = trees[0]
                _, total = self.check(trees)
                least = min(sum(distance(tree, other) for other in trees) for tree in pool)
                self.assertLessEqual(total, least, trees)

    def test_by_a_search_through_larger_trees(self):
        rng = seeded(55)
        for _ in range(150):
            trees = [near_tree(rng, 2) for _ in range(rng.randint(2, 6))]
            tree, total = self.check(trees)
            near = [*trees, *[applied(near_table(rng, 3), tree) for _ in range(40)]]
            self.assertLessEqual(total, min(sum(distance(some, other) for other in trees) for some in near), trees)

    def test_no_tree(self):
        for value in ((), [], None, 0, True, "", "ab", EMPTY, X, deep(900), deep(900, list)):
            self.assertEqual(refused(self, BadTree, common, value), {})
        for value in JUNK:
            if not is_tree(tuples(value)):
                for some in ([value], [EMPTY, value], (value, EMPTY), [EMPTY, X, X, X, X, value]):
                    self.assertEqual(refused(self, BadTree, common, some), {})

    def test_more_than_six(self):
        self.assertEqual(self.check([X, EMPTY, X, EMPTY, X, EMPTY, X]), (X, 3))

    def test_full_trees(self):
        rng = seeded(56)
        for many in (60, 400):
            trees = [applied(near_table(rng, 12), full_tree(many + at)) for at in range(6)]
            quick(self, 0.5, common, trees)
            self.check(trees)

    def test_wide_trees(self):
        names = ["".join(signs) for signs in itertools.product("abcdefghijklmnopqrst", repeat=2)]
        trees = [((), tuple((name + last, X) for name in names)) for last in "abcdef"]
        # For each child, one tree puts its two, which is cheaper than that the five others hide it.
        self.assertEqual(quick(self, 1, common, trees)[1], 4800)
