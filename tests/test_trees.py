"""[4], [5], [9], [10]: trees."""

import itertools
import unittest

from tests import samples
from tests.samples import (
    EIGHT, HUGE, JUNK, NINE, chain, deep, lists, refused, seeded, some_tree, spoiled, tuples,
)
from variantnest.errors import BadTree, NoNode
from variantnest.trees import in_order, is_tree, loose, make_tree, node, nodes, size

EMPTY = ((), ())
LAMP = (
    (("on", 1), ("rank", "last")),
    (
        ("bulb", ((("home", ("link", ())), ("next", ("link", ("shade", "rim")))), (("wire", EMPTY),))),
        ("cord", ((("rank", -1), ("to", ("link", ("bulb", "wire", "x")))), ())),
        ("shade", ((("rank", 2), ("to", ("link", ("gone",)))), (("rim", ((("x", ("link", EIGHT)),), ())),))),
    ),
)
NO_TREES = tuple(value for value in JUNK if not samples.is_tree(tuples(value)))
NO_NODES = (
    ("x",), ("bulb", "x"), ("bulb", "wire", "x"), "bulb", "", ("bulb", ("wire",)), (("bulb",),), ("Bulb",), NINE,
    None, 0, True, ((),), ("bulb", None), deep(900),
)


class IsTree(unittest.TestCase):

    def test_trees(self):
        for tree in (EMPTY, LAMP, ((("x", 1),), (("x", EMPTY),)), chain(EIGHT), chain(EIGHT, (("x", HUGE),))):
            self.assertIs(is_tree(tree), True)

    def test_depth(self):
        self.assertIs(is_tree(chain(NINE)), False)
        self.assertIs(is_tree(chain(NINE * 30)), False)

    def test_order(self):
        one, two = ("a", 1), ("b", 2)
        self.assertIs(is_tree(((one, two), ())), True)
        self.assertIs(is_tree(((two, one), ())), False)
        self.assertIs(is_tree(((one, one), ())), False)
        self.assertIs(is_tree(((one, ("a", 2)), ())), False)
        one, two = ("a", EMPTY), ("b", EMPTY)
        self.assertIs(is_tree(((), (one, two))), True)
        self.assertIs(is_tree(((), (two, one))), False)
        self.assertIs(is_tree(((), (one, one))), False)

    def test_inside(self):
        for inner in (((("b", 1), ("a", 1)), ()), ((("a", True),), ()), [[], []], ((),), ((), (), ()), None):
            self.assertIs(is_tree(((), (("a", EMPTY), ("b", inner)))), False)

    def test_parts(self):
        for props in ((("x", True),), (("X", 1),), (("x",),), (("x", 1, 1),), ("x",), "", "x", None, [], (["x", 1],)):
            self.assertIs(is_tree((props, ())), False)
        for children in ((("x", 1),), (("X", EMPTY),), (("x",),), (("x", EMPTY, 1),), "", None, [], (["x", EMPTY],)):
            self.assertIs(is_tree(((), children)), False)
        self.assertIs(is_tree(((("x", ("link", ["a"])),), ())), False)
        self.assertIs(is_tree(((("x", ("link", NINE)),), ())), False)

    def test_any_object(self):
        for value in (*JUNK, *itertools.product(JUNK, repeat=2)):
            self.assertIs(is_tree(value), samples.is_tree(value))
        for kind in (tuple, list):
            self.assertIs(is_tree(deep(900, kind)), False)
            self.assertIs(is_tree(((("x", deep(900, kind)),), ())), False)

    def test_trees_with_a_flaw(self):
        rng = seeded(1)
        verdicts = []
        for _ in range(3000):
            tree = some_tree(rng)
            self.assertIs(is_tree(tree), True)
            value = spoiled(rng, tree)
            verdicts.append(is_tree(value))
            self.assertIs(verdicts[-1], samples.is_tree(value), value)
        self.assertIn(True, verdicts)
        self.assertIn(False, verdicts)


class MakeTree(unittest.TestCase):

    def test_nothing_passed(self):
        self.assertEqual(make_tree(), EMPTY)
        self.assertEqual(make_tree((), ()), EMPTY)
        self.assertEqual(make_tree(children=[("a", EMPTY)]), ((), (("a", EMPTY),)))
        self.assertEqual(make_tree([("a", 1)]), ((("a", 1),), ()))

    def test_any_order(self):
        props = (("a", 1), ("b", ("link", ("x",))), ("rank", "on"))
        children = (("a", EMPTY), ("ab", LAMP), ("b", EMPTY))
        for some in itertools.permutations(props):
            for others in itertools.permutations(children):
                self.assertEqual(make_tree(some, others), (props, children))

    def test_a_name_may_stand_for_a_prop_and_a_child(self):
        self.assertEqual(make_tree([("a", 1)], [("a", EMPTY)]), ((("a", 1),), (("a", EMPTY),)))

    def test_twice(self):
        for pairs in ((("a", 1), ("a", 1)), (("a", 1), ("b", 1), ("a", 2))):
            self.assertRaises(BadTree, make_tree, pairs)
        for pairs in ((("a", EMPTY), ("a", EMPTY)), (("a", EMPTY), ("b", EMPTY), ("a", LAMP))):
            self.assertRaises(BadTree, make_tree, (), pairs)

    def test_strings(self):
        for text in ("", "a", "ab", "xy"):
            self.assertRaises(BadTree, make_tree, text)
            self.assertRaises(BadTree, make_tree, (), text)
            self.assertRaises(BadTree, make_tree, [text])
            self.assertRaises(BadTree, make_tree, (), [text])

    def test_an_inner_tree_in_another_order(self):
        self.assertRaises(BadTree, make_tree, (), [("a", ((("b", 1), ("a", 1)), ()))])

    def test_depth(self):
        self.assertEqual(make_tree((), [("a", chain(EIGHT[1:]))]), chain(EIGHT))
        self.assertRaises(BadTree, make_tree, (), [("a", chain(EIGHT))])

    def test_values(self):
        for value in (HUGE, -HUGE, "abcdefgh", ("link", EIGHT)):
            self.assertEqual(make_tree([("x", value)]), ((("x", value),), ()))
        for value in (True, False, None, "", "abcdefghi", "A", ("link", NINE), ("link", "a"), (), 1.5):
            self.assertRaises(BadTree, make_tree, [("x", value)])

    def test_any_objects(self):
        for one, other in itertools.product(JUNK, repeat=2):
            props, children = tuples(one), tuples(other)
            if isinstance(props, tuple) and isinstance(children, tuple):
                if samples.are_rows(props[::-1]) and samples.are_rows(children[::-1]):
                    props, children = props[::-1], children[::-1]
            if samples.is_tree((props, children)):
                self.assertEqual(make_tree(one, other), (props, children))
            else:
                self.assertEqual(refused(self, BadTree, make_tree, one, other), {})
        self.assertRaises(BadTree, make_tree, deep(900, list), deep(900))
        self.assertRaises(BadTree, make_tree, [("x", deep(900, list))])


class Nodes(unittest.TestCase):

    def test_example(self):
        paths = [(), ("bulb",), ("bulb", "wire"), ("cord",), ("shade",), ("shade", "rim")]
        self.assertEqual(nodes(LAMP), paths)
        self.assertEqual(nodes(LAMP), paths)
        self.assertEqual(nodes(EMPTY), [()])

    def test_deepest(self):
        self.assertEqual(nodes(chain(EIGHT)), [EIGHT[:length] for length in range(9)])

    def test_ascending(self):
        rng = seeded(2)
        for _ in range(200):
            tree = some_tree(rng, 4)
            found = nodes(tree)
            self.assertIs(type(found), list)
            self.assertEqual(found, sorted(set(found)))
            self.assertEqual(set(found), set(parts(tree)))


def parts(tree, path=()):
    """All nodes of a tree by their paths."""
    found = {path: tree}
    for name, child in tree[1]:
        found.update(parts(child, (*path, name)))
    return found


class Node(unittest.TestCase):

    def test_example(self):
        self.assertEqual(node(LAMP, ()), LAMP)
        self.assertEqual(node(LAMP, ("cord",)), LAMP[1][1][1])
        self.assertEqual(node(LAMP, ("bulb", "wire")), EMPTY)
        self.assertEqual(node(LAMP, ("shade", "rim")), ((("x", ("link", EIGHT)),), ()))
        self.assertEqual(node(chain(EIGHT), EIGHT), EMPTY)

    def test_each_node(self):
        rng = seeded(3)
        for _ in range(100):
            for path, tree in parts(some := some_tree(rng, 4)).items():
                self.assertEqual(node(some, path), tree)
                self.assertEqual(node(lists(some), list(path)), tree)

    def test_no_node(self):
        for path in NO_NODES:
            self.assertEqual(refused(self, NoNode, node, LAMP, path)["path"], path)
        error = refused(self, NoNode, node, LAMP, ["bulb", ["x", []]])
        self.assertEqual(error["path"], ("bulb", ("x", ())))
        self.assertEqual(refused(self, NoNode, node, LAMP, deep(900, list))["path"], deep(900))


class InOrder(unittest.TestCase):

    def test_example(self):
        self.assertEqual(in_order(LAMP, ()), ["cord", "bulb", "shade"])
        self.assertEqual(in_order(LAMP, ["bulb"]), ["wire"])
        self.assertEqual(in_order(LAMP, ("cord",)), [])

    def ranked(self, **ranks):
        children = [(name, make_tree([] if rank is None else [("rank", rank)])) for name, rank in ranks.items()]
        return in_order(make_tree((), children), ())

    def test_ranks(self):
        self.assertEqual(self.ranked(a=3, b=1, c=2), ["b", "c", "a"])
        self.assertEqual(self.ranked(a=10, b=9, c=-1), ["c", "b", "a"])
        self.assertEqual(self.ranked(a=HUGE, b=-HUGE, c=None), ["b", "c", "a"])

    def test_equal_ranks(self):
        self.assertEqual(self.ranked(c=1, a=1, b=1), ["a", "b", "c"])
        self.assertEqual(self.ranked(c=None, a=0, b=None), ["a", "b", "c"])
        self.assertEqual(self.ranked(b=0, ab=0, a=0), ["a", "ab", "b"])

    def test_no_integer_counts_as_0(self):
        self.assertEqual(self.ranked(a="one", b=-1, c=("link", ()), d=1, e=0), ["b", "a", "c", "e", "d"])

    def test_other_props_do_not_count(self):
        children = [("a", make_tree([("r", 9), ("ranks", 9)])), ("b", make_tree([("rank", 1)]))]
        self.assertEqual(in_order(make_tree([("rank", 5)], children), ()), ["a", "b"])

    def test_below_the_root(self):
        inner = make_tree((), [("a", make_tree([("rank", 1)])), ("b", EMPTY)])
        self.assertEqual(in_order(make_tree((), [("x", inner)]), ("x",)), ["b", "a"])

    def test_no_node(self):
        for path in NO_NODES:
            self.assertEqual(refused(self, NoNode, in_order, LAMP, path)["path"], path)
        self.assertEqual(refused(self, NoNode, in_order, LAMP, ["x", []])["path"], ("x", ()))


class Loose(unittest.TestCase):

    def test_example(self):
        found = [(("cord",), "to"), (("shade",), "to"), (("shade", "rim"), "x")]
        self.assertEqual(loose(LAMP), found)
        self.assertEqual(loose(LAMP), found)
        self.assertEqual(loose(EMPTY), [])

    def test_links_count_from_the_root(self):
        tree = make_tree((), [("a", make_tree([("x", ("link", ("b",)))], [("b", EMPTY)]))])
        self.assertEqual(loose(tree), [(("a",), "x")])
        tree = make_tree((), [("a", make_tree([("x", ("link", ("a", "b")))], [("b", EMPTY)]))])
        self.assertEqual(loose(tree), [])

    def test_only_links(self):
        self.assertEqual(loose(make_tree([("x", 1), ("y", "gone"), ("z", ("link", ("gone",)))])), [((), "z")])
        self.assertEqual(loose(make_tree([("x", ("link", ()))])), [])

    def test_ascending(self):
        rng = seeded(4)
        for _ in range(300):
            tree = some_tree(rng)
            there = parts(tree)
            found = [
                (path, name) for path, part in there.items() for name, value in part[0]
                if isinstance(value, tuple) and value[1] not in there
            ]
            self.assertEqual(loose(tree), sorted(found))


class Size(unittest.TestCase):

    def test_sizes(self):
        self.assertEqual(size(EMPTY), 1)
        self.assertEqual(size(LAMP), 6 + 9)
        self.assertEqual(size(LAMP), 6 + 9)
        self.assertEqual(size(make_tree([("a", 1), ("b", 2)])), 3)
        self.assertEqual(size(chain(EIGHT, (("x", 1),))), 10)


class NoTree(unittest.TestCase):

    def test_any_object(self):
        for value in (*NO_TREES, deep(900), deep(900, list), chain(NINE), lists(chain(NINE))):
            for function in (nodes, loose, size):
                self.assertEqual(refused(self, BadTree, function, value), {})

    def test_ahead_of_a_wrong_path(self):
        for value in NO_TREES:
            for path in ((), "x", None, ("x",), [True]):
                refused(self, BadTree, node, value, path)
                refused(self, BadTree, in_order, value, path)

    def test_trees_with_a_flaw(self):
        rng = seeded(5)
        for _ in range(1000):
            value = spoiled(rng, some_tree(rng))
            if samples.is_tree(tuples(value)):
                self.assertEqual(node(value, ()), tuples(value))
            else:
                refused(self, BadTree, node, value, ())
