"""[16], [18]: tables one after another, and what two sides changed put together."""

import itertools
import unittest

from tests import samples
from tests.samples import (
    EIGHT, EMPTY, chain, full_table, full_tree, is_table, key_of, lists, near_entry, near_table, near_tree, quick,
    seeded, tables_of, trees_up_to,
)
from variantnest.composing import composed, merged
from variantnest.normal import alike, normal
from variantnest.tables import make_table

X = ((("x", 1),), ())
Y = ((("y", 2),), ())
FEW = (
    ("set", (), "x", 1), ("drop", (), "x"), ("set", ("a",), "x", 1), ("drop", ("a",), "x"), ("hide", ("a",)),
    ("hide", ("a", "b")), ("put", ("a",), EMPTY), ("put", ("a",), X), ("put", ("a",), ((), (("b", X),))),
    ("put", ("a", "b"), EMPTY), ("set", ("a", "b"), "x", 2),
)
TREES = trees_up_to(3, ("a", "b"), ((), (("x", 2),)))


class Composed(unittest.TestCase):

    def check(self, one, other, trees=TREES):
        """Checks that the composed table is normal and does what the two do one after another."""
        found = composed(one, other)
        self.assertIs(is_table(found), True)
        self.assertEqual(normal(found), found)
        for tree in trees:
            result = samples.applied(other, samples.applied(one, tree))
            self.assertEqual(samples.applied(found, tree), result, (one, other))
        return found

    def gives(self, one, other, result):
        for _ in range(2):
            self.assertEqual(composed(one, other), make_table(result))
        self.assertEqual(composed(one[::-1], lists(other)), make_table(result))
        self.assertEqual(composed(lists(one), other[::-1]), make_table(result))
        self.check(make_table(one), make_table(other))

    def test_the_example(self):
        self.gives([("put", ("a",), EMPTY)], [("set", ("a",), "x", 1)], [("put", ("a",), X), ("set", ("a",), "x", 1)])

    def test_with_the_empty_table(self):
        table = [("set", (), "x", 1), ("hide", ("a",)), ("set", ("a",), "x", 1), ("put", ("a",), X)]
        self.gives([], [], [])
        self.gives(table, [], normal(table))
        self.gives([], table, normal(table))

    def test_props(self):
        path = ("a", "b")
        entries = [("set", path, "x", 1), ("set", path, "x", 2), ("drop", path, "x")]
        for one, other in itertools.product(entries, repeat=2):
            self.gives([one], [other], [other])
            self.gives([one], [(*other[:2], "y", *other[3:])], [one, (*other[:2], "y", *other[3:])])

    def test_what_both_hide(self):
        self.gives([("hide", ("a",))], [("hide", ("b",))], [("hide", ("a",)), ("hide", ("b",))])
        self.gives([("hide", ("a",))], [("hide", ("a", "b"))], [("hide", ("a",))])
        self.gives([("hide", ("a", "b"))], [("hide", ("a",))], [("hide", ("a",))])

    def test_what_is_hidden_then(self):
        one = [("set", ("a",), "x", 1), ("put", ("a",), X), ("put", ("a", "b"), X), ("set", (), "x", 1)]
        self.gives(one, [("hide", ("a",))], [("set", (), "x", 1), ("hide", ("a",))])
        other = [("hide", ("a",)), ("put", ("a",), Y)]
        self.gives(one, other, [("set", (), "x", 1), *other])

    def test_what_is_put_where_the_first_hides(self):
        hide = ("hide", ("a",))
        self.gives([hide], [("put", ("a",), X), ("set", ("a",), "x", 2)], [hide, ("put", ("a",), X)])
        self.gives([hide, ("put", ("a",), Y)], [("put", ("a",), X)], [hide, ("put", ("a",), Y)])
        self.gives([hide, ("put", ("a",), Y)], [("set", ("a",), "y", 3)], [hide, ("put", ("a",), ((("y", 3),), ()))])

    def test_what_the_first_puts(self):
        put = ("put", ("a",), ((("x", 1), ("y", 1)), (("b", X), ("c", X))))
        other = [
            ("drop", ("a",), "y"), ("set", ("a",), "z", 3), ("set", (), "x", 5), ("hide", ("a", "b")),
            ("set", ("a", "c"), "x", 7), ("put", ("a", "b"), Y), ("put", ("a", "c"), Y), ("put", ("a", "d"), Y),
            ("put", ("a",), EMPTY),
        ]
        self.gives([put], other, [
            ("put", ("a",), ((("x", 1), ("z", 3)), (("b", Y), ("c", ((("x", 7),), ())), ("d", Y)))), *other[:-1],
        ])

    def test_what_the_first_puts_is_hidden(self):
        self.gives([("put", ("a",), X)], [("hide", ("a",))], [("hide", ("a",))])
        self.gives([("put", ("a", "b"), X)], [("hide", ("a",))], [("hide", ("a",))])

    def test_ids_that_begin_with_the_same_letters(self):
        one = [("put", ("a",), X), ("put", ("ab",), X), ("put", ("b", "a"), X)]
        other = [("set", ("ab",), "x", 2), ("hide", ("a", "b")), ("set", ("a", "a"), "x", 2)]
        self.gives(one, other, [one[0], one[2], ("put", ("ab",), ((("x", 2),), ())), *other])

    def test_longest_paths(self):
        one, other = ("put", EIGHT[:3], chain(EIGHT[3:])), ("set", EIGHT, "x", 1)
        found = self.check((one,), (other,), [chain(EIGHT[:many]) for many in range(9)])
        self.assertEqual(found, make_table([("put", EIGHT[:3], chain(EIGHT[3:], X[0])), other]))

    def test_all_tables_of_few_entries(self):
        tables = list(tables_of(FEW, 2))
        for one, other in itertools.product(tables, repeat=2):
            self.check(one, other, TREES[::2])
        rng = seeded(41)
        tables = list(tables_of(FEW, 4))
        for _ in range(1000):
            self.check(rng.choice(tables), rng.choice(tables))

    def test_many_tables(self):
        rng = seeded(42)
        trees = [near_tree(rng) for _ in range(30)]
        for _ in range(300):
            self.check(near_table(rng, 12), near_table(rng, 12), trees)

    def test_there_is_only_one(self):
        rng = seeded(43)
        for _ in range(300):
            one, two, three = [near_table(rng) for _ in range(3)]
            first = composed(composed(one, two), three)
            self.assertEqual(first, composed(one, composed(two, three)))
            self.assertEqual(composed(normal(one), normal(two)), composed(one, two))
            self.assertIs(alike(first, composed(one, composed(two, three))), None)

    def test_full_tables(self):
        rng = seeded(44)
        tree = full_tree(60)
        tables = [full_table(rng, tree, 38) + (("put", ("z",), tree), ("put", ("zz",), tree)) for _ in range(2)]
        found = quick(self, 0.5, composed, *tables)
        for some in (tree, EMPTY):
            result = samples.applied(tables[1], samples.applied(tables[0], some))
            self.assertEqual(samples.applied(found, some), result)

    def test_more_than_the_limits(self):
        rng = seeded(45)
        tree = full_tree(400)
        for _ in range(3):
            self.check(full_table(rng, tree, 500), full_table(rng, tree, 500), [tree])


def told(base, one, other):
    """What [18] says, key by key and entry by entry."""
    rows, found = {}, []
    for key in sorted({key_of(entry) for entry in (*base, *one, *other)}):
        first, second, third = [
            next((entry for entry in table if key_of(entry) == key), None) for table in (base, one, other)
        ]
        if second == third or third == first:
            rows[key] = second
        elif second == first:
            rows[key] = third
        else:
            rows[key] = first
            found.append(("both", key))
    table = tuple(rows[key] for key in sorted(rows) if rows[key] is not None)
    new = [entry for entry in table if entry not in base]
    for entry, hide in itertools.product(new, new):
        if hide[0] == "hide" and entry not in normal([entry, hide] if entry != hide else [entry]):
            if not any(entry in side and hide in side for side in (one, other)):
                found.append(("under", key_of(entry)))
    return (table, sorted(set(found)))


class Merged(unittest.TestCase):

    def gives(self, base, one, other, table, conflicts=()):
        result = (make_table(table), list(conflicts))
        for first, second in ((one, other), (other, one)):
            for _ in range(2):
                self.assertEqual(merged(base, first, second), result)
            self.assertEqual(merged(base[::-1], lists(first), second[::-1]), result)
            self.assertEqual(merged(lists(base), first[::-1], lists(second)), result)
            found = merged(base, first, second)
            self.assertEqual([tuple, tuple, list], [type(found), type(found[0]), type(found[1])])
        self.assertEqual(told(make_table(base), make_table(one), make_table(other)), result)

    def test_nothing_changed(self):
        table = [("set", (), "x", 1), ("hide", ("a",)), ("set", ("a",), "x", 1)]
        self.gives([], [], [], [])
        self.gives(table, table, table, table)

    def test_one_side(self):
        one, two, three = ("set", ("a",), "x", 1), ("set", ("a",), "x", 2), ("drop", ("a",), "x")
        for first, second in itertools.permutations((one, two, three), 2):
            self.gives([first], [first], [second], [second])
        self.gives([one], [one], [], [])
        self.gives([], [], [one], [one])
        self.gives([("put", ("a",), X)], [("put", ("a",), X)], [("put", ("a",), Y)], [("put", ("a",), Y)])

    def test_both_sides_alike(self):
        one, two = ("set", ("a",), "x", 1), ("drop", ("a",), "x")
        self.gives([one], [two], [two], [two])
        self.gives([one], [], [], [])
        self.gives([], [one], [one], [one])
        self.gives([], [("hide", ("a",))], [("hide", ("a",))], [("hide", ("a",))])

    def test_both_sides_otherwise(self):
        one, two, three = ("set", ("a",), "x", 1), ("set", ("a",), "x", 2), ("drop", ("a",), "x")
        both = [("both", ("prop", ("a",), "x"))]
        self.gives([one], [two], [three], [one], both)
        self.gives([one], [two], [], [one], both)
        self.gives([one], [], [three], [one], both)
        self.gives([], [two], [three], [], both)
        put = ("put", ("a",), EMPTY)
        self.gives([put], [("put", ("a",), X)], [("put", ("a",), Y)], [put], [("both", ("put", ("a",)))])
        self.gives([put], [("put", ("a",), X)], [], [put], [("both", ("put", ("a",)))])

    def test_each_key_by_itself(self):
        base = [("set", (), "a", 1), ("set", (), "b", 1), ("set", (), "c", 1), ("set", (), "d", 1)]
        one = [("set", (), "a", 2), base[1], ("drop", (), "c"), ("hide", ("a",))]
        other = [base[0], ("set", (), "b", 3), ("set", (), "c", 3), ("set", (), "d", 1), ("put", ("a",), X)]
        result = [one[0], other[1], base[2], one[3], other[4]]
        self.gives(base, one, other, result, [("both", ("prop", (), "c"))])

    def test_a_new_entry_under_a_new_hide_entry(self):
        hide = ("hide", ("a",))
        for entry in (
            ("set", ("a",), "x", 1), ("drop", ("a",), "x"), ("set", ("a", "b"), "x", 1), ("hide", ("a", "b")),
            ("put", ("a", "b"), X), ("put", ("a", "b", "c"), X), ("drop", ("a", *EIGHT[1:]), "x"),
        ):
            self.gives([], [hide], [entry], [hide, entry], [("under", key_of(entry))])
            self.gives([], [hide, entry], [entry], [hide, entry])
            self.gives([], [hide], [hide, entry], [hide, entry])
            self.gives([], [hide, entry], [], [hide, entry])
            self.gives([hide], [hide], [entry, hide], [hide, entry])
            self.gives([hide], [], [entry, hide], [entry])
            self.gives([entry], [hide, entry], [entry], [hide, entry])

    def test_what_is_not_under_a_hide_entry(self):
        hide = ("hide", ("a", "b"))
        for entry in (
            ("put", ("a", "b"), X), ("set", ("a",), "x", 1), ("put", ("a",), X), ("set", ("a", "bb"), "x", 1),
            ("put", ("aa", "b"), X), ("set", (), "x", 1), ("hide", ("b",)),
        ):
            self.gives([], [hide], [entry], [hide, entry])

    def test_an_entry_with_a_key_of_base(self):
        hide, one, two = ("hide", ("a",)), ("set", ("a",), "x", 1), ("set", ("a",), "x", 2)
        self.gives([one], [one, hide], [two], [hide, two], [("under", ("prop", ("a",), "x"))])
        self.gives([one], [two, hide], [two], [hide, two])
        self.gives([one], [hide], [one], [hide])
        self.gives([one], [hide, two], [one], [hide, two])
        self.gives([one], [hide], [two], [hide, one], [("both", ("prop", ("a",), "x"))])

    def test_under_two_hide_entries(self):
        high, low = ("hide", ("a",)), ("hide", ("a", "b"))
        entry = ("set", ("a", "b"), "x", 1)
        under = ("under", ("prop", ("a", "b"), "x"))
        both = ("under", ("hide", ("a", "b")))
        self.gives([], [high, low], [entry], [high, low, entry], [under])
        self.gives([], [high], [low, entry], [high, low, entry], [both, under])
        self.gives([], [high, entry], [low], [high, low, entry], [both, under])
        self.gives([low], [low, high], [low, entry], [high, low, entry], [under])
        self.gives([high], [low, high], [high, entry], [high, low, entry], [under])
        self.gives([high, low], [low, high], [high, low, entry], [high, low, entry])
        self.gives([], [high, low, entry], [entry], [high, low, entry])

    def test_a_new_hide_entry_that_is_not_taken_is_in_nobodys_way(self):
        hide, entry = ("hide", ("a",)), ("set", ("a",), "x", 1)
        self.gives([hide], [], [hide, entry], [entry])

    def test_the_order_of_the_conflicts(self):
        base = [("set", ("z",), "x", 1), ("put", ("z",), X), ("set", ("b",), "x", 1)]
        one = [("set", ("z",), "x", 2), ("put", ("z",), Y), ("set", ("b",), "x", 2), ("hide", ("a",))]
        other = [
            ("drop", ("z",), "x"), ("put", ("z",), EMPTY), ("put", ("a", "b"), X), ("set", ("a",), "z", 1),
            ("set", ("a",), "b", 1), ("hide", ("a", "b")),
        ]
        self.gives(base, one, other, [*base, one[3], *other[2:]], [
            ("both", ("prop", ("b",), "x")), ("both", ("prop", ("z",), "x")), ("both", ("put", ("z",))),
            ("under", ("hide", ("a", "b"))), ("under", ("prop", ("a",), "b")), ("under", ("prop", ("a",), "z")),
            ("under", ("put", ("a", "b"))),
        ])

    def test_the_lists_of_conflicts_are_new(self):
        one, other = [("set", (), "x", 1)], [("set", (), "x", 2)]
        merged([], one, other)[1].append("changed")
        self.assertEqual(merged([], one, other), ((), [("both", ("prop", (), "x"))]))

    def test_all_tables_of_few_entries(self):
        entries = (
            ("set", ("a",), "x", 1), ("drop", ("a",), "x"), ("hide", ("a",)), ("hide", ("a", "b")),
            ("put", ("a", "b"), X),
        )
        tables = list(tables_of(entries, 5))
        for base, one, other in itertools.product(tables, repeat=3):
            self.assertEqual(merged(base, one, other), told(base, one, other))

    def test_many_tables(self):
        rng = seeded(46)
        words = set()
        for _ in range(1500):
            base = near_table(rng, 6)
            sides = []
            for _ in range(2):
                entries = [*rng.sample(base, rng.randint(0, len(base))), *[near_entry(rng) for _ in range(3)]]
                sides.append(make_table(list({key_of(entry): entry for entry in entries}.values())))
            found = merged(base, *sides)
            self.assertEqual(found, told(base, *sides))
            words.update(word for word, _ in found[1])
        self.assertEqual(words, {"both", "under"})

    def test_full_tables(self):
        rng = seeded(47)
        tree = full_tree(60)
        tables = [full_table(rng, tree, 40) for _ in range(3)]
        found = quick(self, 0.5, merged, *tables)
        self.assertEqual(found, told(*tables))
