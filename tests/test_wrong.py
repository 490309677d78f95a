"""[5], [10], [12], [17]: what is no table and what is no tree, in the place of each argument."""

import itertools
import unittest

from tests.samples import (
    EMPTY, JUNK, deep, is_tree, lists, near_table, near_tree, refused, seeded, some_table, some_tree, spoiled,
    table_fault, tuples,
)
from variantnest.applying import applied, entry_words
from variantnest.between import between, common, cost
from variantnest.composing import composed, merged
from variantnest.errors import BadEntry, BadTree, TwoEntries
from variantnest.normal import alike, normal

SET, HIDE, PUT = ("set", ("a",), "x", 1), ("hide", ("b",)), ("put", ("c",), EMPTY)
# The functions, and what each of their arguments is.
KINDS = (
    (applied, ("table", "tree")), (entry_words, ("table", "tree")), (normal, ("table",)), (alike, ("table", "table")),
    (composed, ("table", "table")), (merged, ("table", "table", "table")), (between, ("tree", "tree")),
    (cost, ("table",)), (common, ("trees",)),
)
RIGHT = {"table": ([SET, PUT, HIDE], (), [PUT]), "tree": (EMPTY, ((("x", 1),), ())), "trees": ([EMPTY], (EMPTY, EMPTY))}
WRONG = {
    "table": ([SET, None], [HIDE, SET, ("drop", ["a"], "x")], [SET, SET, ("hide", ())], "set"),
    "tree": (None, [SET], ((), (("a", EMPTY), ("a", EMPTY)))),
    "trees": ((), EMPTY, [EMPTY, SET]),
}
OTHERS = (*JUNK, ("put", ("a",), deep(200, list)), ("set", ("a",), "x", deep(200)))


def is_wrong(kind, value):
    if kind == "table":
        return table_fault(value) is not None
    if kind == "tree":
        return not is_tree(tuples(value))
    return not isinstance(value, (list, tuple)) or not value or not all(is_tree(tuples(tree)) for tree in value)


def fault(kinds, passed):
    """The error that a call raises, with its fields: of the first wrong table, else for a wrong tree."""
    for kind, value in zip(kinds, passed):
        if kind == "table" and is_wrong(kind, value):
            return table_fault(value)
    return BadTree, {}


class Wrong(unittest.TestCase):

    def refuses(self, function, kinds, passed):
        error, fields = fault(kinds, passed)
        for _ in range(2):
            self.assertEqual(refused(self, error, function, *passed), fields, (function.__name__, passed))

    def test_samples(self):
        for kind in RIGHT:
            self.assertFalse(any(is_wrong(kind, value) for value in RIGHT[kind]))
            self.assertTrue(all(is_wrong(kind, value) for value in WRONG[kind]))
        self.assertEqual(
            [table_fault(value) for value in WRONG["table"]],
            [(BadEntry, {"index": 1}), (TwoEntries, {"key": ("prop", ("a",), "x")}), (BadEntry, {"index": 2}),
             (BadEntry, {"index": 0})],
        )

    def test_right_and_wrong_arguments_together(self):
        for function, kinds in KINDS:
            for passed in itertools.product(*[(*RIGHT[kind], *WRONG[kind]) for kind in kinds]):
                if any(is_wrong(kind, value) for kind, value in zip(kinds, passed)):
                    self.refuses(function, kinds, passed)
                    self.refuses(function, kinds, [lists(value) for value in passed])
                else:
                    function(*passed)

    def test_any_object(self):
        for function, kinds in KINDS:
            for at, kind in enumerate(kinds):
                before = [RIGHT[some][0] for some in kinds[:at]]
                after = [RIGHT[some][0] for some in kinds[at + 1:]]
                values = [*OTHERS, *[[SET, value] for value in OTHERS], *[((), (("a", value),)) for value in OTHERS]]
                for value in values:
                    passed = (*before, value, *after)
                    if is_wrong(kind, value):
                        self.refuses(function, kinds, passed)
                    else:
                        function(*passed)

    def test_deep_objects(self):
        errors = {"table": (BadEntry, {"index": 0}), "tree": (BadTree, {}), "trees": (BadTree, {})}
        for function, kinds in KINDS:
            for at, kind in enumerate(kinds):
                before = [RIGHT[some][0] for some in kinds[:at]]
                after = [RIGHT[some][0] for some in kinds[at + 1:]]
                error, fields = errors[kind]
                for value in (deep(900), deep(900, list)):
                    some = [("put", ("a",), value), [("set", ("a",), "x", value)], ((), (("a", value),)), [value]]
                    for wrong in (value, *some):
                        self.assertEqual(refused(self, error, function, *before, wrong, *after), fields)

    def test_arguments_with_a_flaw(self):
        rng = seeded(61)
        makers = {"table": (some_table, near_table), "tree": (some_tree, near_tree)}
        for function, kinds in KINDS[:-1]:
            for _ in range(150):
                passed = [rng.choice(makers[kind])(rng) for kind in kinds]
                at = rng.randrange(len(kinds))
                passed[at] = spoiled(rng, passed[at])
                if is_wrong(kinds[at], passed[at]):
                    self.refuses(function, kinds, passed)
                else:
                    function(*passed)

    def test_truth_values_are_no_integers(self):
        for function, kinds in KINDS:
            for kind, value in itertools.product(kinds[:1], (True, False)):
                wrong = {
                    "table": [("set", (), "x", value)], "tree": ((("x", value),), ()), "trees": [((("x", value),), ())],
                }
                self.refuses(function, kinds, [wrong[kind], *[RIGHT[some][0] for some in kinds[1:]]])
