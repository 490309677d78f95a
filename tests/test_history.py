"""[36], [37]: history, undo, redo, copies, equality, replay, would and without."""

import unittest

from tests.samples import JUNK, deep, lists, tuples
from tests.shelf import TABLE, E, P, keeps, path, shelf, text, trees
from variantnest.errors import (
    BadName, BadPiece, BadStep, Broken, NoNode, NoStep, NothingToRedo, NothingToUndo, UnknownTemplate, VariantError,
)
from variantnest.library import Library, differences, replay, without
from variantnest.texts import library_text, read_library

OTHERS = (*JUNK, deep(300), deep(300, list))
STEPS = (
    ("make", "t", P("{x=1, a{y=1}}")), ("make", "u", P("{k<t 0: set . x 2>}")), ("release", "t"),
    ("rename_child", "t", ("a",), "b"), ("change", "u", E("put k/c {}")), ("push", "u", ("k",), ("put", ("c",))),
    ("rename_prop", "t", (), "x", "z"), ("define", "u", P("{k<t 1: set . x 4>, m{}}")), ("upgrade", "u", ("k",), 0),
    ("extract", "u", ("m",), "n"), ("inline", "u", ("m",)), ("share", ("n",), "o"), ("rename_template", "o", "p"),
    ("reset", "u", ("k",), ("prop", (), "z")), ("make", "q", P("{}")), ("remove", "q"),
)


def do(library, step):
    return getattr(library, step[0])(*step[1:])


def told():
    library = Library()
    for step in STEPS:
        do(library, step)
    return library


class History(unittest.TestCase):

    def test_all_deeds(self):
        library = Library()
        self.assertEqual(library.history(), [])
        for at, step in enumerate(STEPS):
            do(library, lists(step) if at % 2 else step)
            self.assertEqual(library.history(), list(STEPS[:at + 1]))
        self.assertEqual({step[0] for step in STEPS}, {
            "make", "define", "remove", "rename_template", "change", "reset", "push", "extract", "inline", "share",
            "rename_child", "rename_prop", "release", "upgrade",
        })

    def test_refused_deeds_are_no_steps(self):
        library = told()
        keeps(self, library, BadPiece, (), "define", "t", None)
        self.assertEqual(len(library.history()), len(STEPS))

    def test_a_step_that_changes_nothing(self):
        library = shelf("t {x=1}")
        before = library.copy()
        library.change("t", E("set . x 1"))
        library.define("t", P("{x=1}"))
        self.assertEqual(len(library.history()), 3)
        self.assertTrue(library == before)
        library.undo()
        self.assertEqual(len(library.history()), 2)
        library.redo()
        self.assertEqual(library.history()[1:], [("change", "t", E("set . x 1")), ("define", "t", P("{x=1}"))])

    def test_steps_with_lists_that_change_later(self):
        library = shelf("t {a{}}")
        where, key = ["a"], ["hide", ["a"]]
        library.rename_child("t", where, "b")
        where.append("c")
        library.make("u", P("<t 0: hide a>"))
        library.reset("u", [], key)
        key[1].append("z")
        self.assertEqual(library.history()[1:], [
            ("rename_child", "t", ("a",), "b"), ("make", "u", P("<t 0: hide a>")), ("reset", "u", (), ("hide", ("a",))),
        ])


class Undo(unittest.TestCase):

    def test_all_the_way_back_and_forth(self):
        library = Library()
        states = [library.copy()]
        for step in STEPS:
            do(library, step)
            states.append(library.copy())
        for at in range(len(STEPS) - 1, -1, -1):
            self.assertIsNone(library.undo())
            self.same(library, states[at], at)
        keeps(self, library, NothingToUndo, (), "undo")
        for at in range(1, len(STEPS) + 1):
            self.assertIsNone(library.redo())
            self.same(library, states[at], at)
        keeps(self, library, NothingToRedo, (), "redo")

    def same(self, library, other, many):
        self.assertTrue(library == other)
        self.assertEqual(library.history(), list(STEPS[:many]))
        self.assertEqual(trees(library), trees(other))
        self.assertEqual([library.log(name) for name in library.names()], [other.log(name) for name in other.names()])

    def test_a_new_step_forgets_what_was_undone(self):
        library = shelf("t {}", "u {}", "v {}")
        library.undo()
        library.undo()
        with self.assertRaises(NoNode):
            library.change("t", E("set a x 1"))
        library.redo()
        self.assertEqual(library.names(), ["t", "u"])
        library.undo()
        library.change("t", E("set . x 1"))
        keeps(self, library, NothingToRedo, (), "redo")
        library.undo()
        library.redo()
        self.assertEqual(text(library, "t"), "{x=1}")
        self.assertEqual(library.history(), [("make", "t", P("{}")), ("change", "t", E("set . x 1"))])

    def test_templates_releases_and_logs(self):
        library = shelf("t {a{}}", "u {k<t 0>}")
        before = library.copy()
        library.rename_child("t", ("a",), "b")
        library.undo()
        self.assertEqual((library.log("t"), library.log("u")), ([], []))
        library.release("t")
        library.undo()
        self.assertEqual(library.releases("t"), 0)
        self.assertTrue(library == before)
        library.redo()
        self.assertEqual(library.releases("t"), 1)
        library.remove("u")
        library.remove("t")
        library.undo()
        self.assertEqual(library.releases("t"), 1)

    def test_empty(self):
        library = Library()
        keeps(self, library, NothingToUndo, (), "undo")
        keeps(self, library, NothingToRedo, (), "redo")


class Copies(unittest.TestCase):

    def test_a_copy_goes_its_own_way(self):
        library = told()
        library.undo()
        library.undo()
        other = library.copy()
        self.assertTrue(other == library)
        self.assertEqual(other.history(), library.history())
        other.redo()
        self.assertEqual(len(other.history()), len(library.history()) + 1)
        other.make("z", P("{}"))
        library.redo()
        library.redo()
        self.assertEqual((len(library.history()), len(other.history())), (len(STEPS), len(STEPS)))
        self.assertNotIn("z", library.names())
        while other.history():
            other.undo()
        self.assertEqual(len(library.history()), len(STEPS))
        self.assertEqual(library.names(), ["n", "p", "t", "u"])

    def test_equality(self):
        one, other = told(), told()
        self.assertIs(one == other, True)
        self.assertIs(one != other, False)
        other.undo()
        other.undo()
        self.assertIs(one == other, True)
        other.undo()
        self.assertIs(one == other, False)
        self.assertIs(one != other, True)
        for value in (None, 1, "t", (), [], {}, one.history(), object()):
            self.assertIs(one == value, False)
            self.assertIs(Library() == value, False)
        self.assertIs(Library() == Library(), True)

    def test_what_makes_libraries_different(self):
        rows = ("t {a{}}", "u <t 0>")
        one = shelf(*rows)
        for step in (
            ("make", "v", P("{}")), ("change", "t", E("set . x 1")), ("release", "t"),
            ("rename_template", "u", "v"), ("define", "u", P("{a{}}")),
        ):
            other = shelf(*rows)
            do(other, step)
            self.assertFalse(one == other, step)
        other = shelf(*rows)
        other.rename_child("t", ("a",), "b")
        other.rename_child("t", ("b",), "a")
        self.assertEqual(trees(one), trees(other))
        self.assertFalse(one == other)

    def test_the_places_of_releases_in_logs(self):
        made = []
        for first in ("release", "rename_child"):
            library = shelf("t {a{}}")
            steps = [("release", "t"), ("rename_child", "t", ("a",), "b"), ("rename_child", "t", ("b",), "a")]
            steps = steps if first == "release" else [*steps[1:], steps[0]]
            for step in steps:
                do(library, step)
            made.append(library)
        one, other = made
        self.assertEqual(trees(one), trees(other))
        self.assertEqual(one.shown("t", 1), other.shown("t", 1))
        self.assertEqual(one.log("t"), other.log("t"))
        self.assertFalse(one == other)

    def test_equal_libraries_behave_alike(self):
        library = told()
        other = read_library(library_text(library))
        self.assertTrue(library == other)
        self.assertEqual(other.history(), [])
        for step in (("push", "u", ("k",), ("hide", ("b",))), ("release", "t"), ("remove", "u"), ("remove", "u")):
            results = []
            for some in (library, other):
                try:
                    results.append(do(some, step))
                except VariantError as error:
                    results.append((type(error), vars(error)))
            self.assertEqual(*results)
            self.assertTrue(library == other)


class Replay(unittest.TestCase):

    def test_replay(self):
        library = told()
        again = replay(library.history())
        self.assertTrue(again == library)
        self.assertEqual(again.history(), library.history())
        self.assertTrue(replay(steps=lists(STEPS)) == library)
        self.assertTrue(replay(()) == Library())
        self.assertTrue(replay([]) == Library())

    def test_bad_steps(self):
        first = [list(STEPS[0]), STEPS[1]]
        bad = [
            *[value for value in OTHERS], ("make",), ("make", "z"), ("make", "z", P("{}"), 1), ("release",), ("history",),
            ("undo",), ("shown", "t"), ("copy",), ("deed", "make", "z"), ("done", ("release", "t")), (1, 2), (("make",), 1),
            ("release", "q"), ("make", "t", P("{}")), ("make", "z", None), ("Make", "z", P("{}")), ("names",),
        ]
        for step in bad:
            for rest in ([], [None], [("release", "t")]):
                with self.assertRaises(BadStep) as held:
                    replay([*first, step, *rest])
                self.assertEqual(vars(held.exception), {"index": 2})
        with self.assertRaises(BadStep) as held:
            replay([("release", "t"), None])
        self.assertEqual(vars(held.exception), {"index": 0})

    def test_no_sequence(self):
        for value in (None, 1, True, "", "make", "ab"):
            with self.assertRaises(BadStep) as held:
                replay(value)
            self.assertEqual(vars(held.exception), {"index": 0})


class Would(unittest.TestCase):

    def test_would(self):
        library = told()
        before = library.copy()
        step = ("change", "t", E("set . q 5"))
        self.assertEqual(library.would(step), [("t", TABLE("set . q 5")), ("u", TABLE("set k q 5"))])
        self.assertEqual(library.would(step=lists(step)), [("t", TABLE("set . q 5")), ("u", TABLE("set k q 5"))])
        self.assertEqual(library.would(("release", "t")), [])
        self.assertEqual(library.would(("make", "z", P("{}"))), [])
        self.assertEqual(library.would(("remove", "u")), [])
        self.assertTrue(library == before)
        self.assertEqual(library.history(), before.history())
        for some in (step, ("rename_template", "t", "z")):
            expected = library.would(some)
            other = library.copy()
            do(other, some)
            self.assertEqual(expected, differences(library, other))

    def test_it_does_not_forget_what_was_undone(self):
        library = shelf("t {}", "u {}")
        library.undo()
        library.would(("make", "v", P("{}")))
        library.redo()
        self.assertEqual(library.names(), ["t", "u"])

    def test_bad_steps(self):
        library = told()
        for step in (*OTHERS, ("make",), ("make", "z"), ("make", "z", 1, 2), ("undo",), ("history",), ("release", "t", 1),
                     ("would", ("release", "t")), "release", ("Release", "t")):
            keeps(self, library, BadStep, (0,), "would", step)
        keeps(self, library, UnknownTemplate, ("z",), "would", ("release", "z"))
        keeps(self, library, BadName, ("Z",), "would", ["make", "Z", None])
        keeps(self, library, UnknownTemplate, ((1,),), "would", ["release", [1]])


class Without(unittest.TestCase):

    def test_without(self):
        library = shelf("t {x=1}", "u <t 0>", "v {}")
        library.change("t", E("set . x 2"))
        other = without(library, 3)
        self.assertEqual(other.history(), library.history()[:3])
        self.assertEqual(text(other, "t"), "{x=1}")
        other = without(library=library, index=2)
        self.assertEqual(other.names(), ["t", "u"])
        self.assertEqual(other.history(), [*library.history()[:2], library.history()[3]])
        self.assertEqual(len(library.history()), 4)
        for _ in range(3):
            other.undo()
        self.assertTrue(other == Library())

    def test_the_state_ahead_of_the_first_step(self):
        library = read_library("template t {x=1, a{}}")
        library.rename_child("t", ("a",), "b")
        library.change("t", E("set . x 2"))
        other = without(library, 0)
        self.assertEqual((text(other, "t"), other.log("t")), ("{x=2, a{}}", []))
        other.undo()
        self.assertTrue(other == read_library("template t {x=1, a{}}"))
        self.assertRaises(NothingToUndo, other.undo)

    def test_undone_steps_do_not_count(self):
        library = shelf("t {}", "u {}")
        library.undo()
        self.assertRaises(NoStep, without, library, 1)
        other = without(library, 0)
        self.assertTrue(other == Library())
        self.assertRaises(NothingToRedo, other.redo)

    def test_no_step(self):
        library = shelf("t {}", "u {}")
        for index in OTHERS:
            if index is True or index is False or index not in (0, 1):
                with self.assertRaises(NoStep) as held:
                    without(library, index)
                self.assertEqual(vars(held.exception), {"index": tuples(index)})
        for index in (2, -1):
            self.assertRaises(NoStep, without, library, index)
        self.assertRaises(NoStep, without, Library(), 0)

    def test_broken(self):
        library = shelf("t {a{}}", "s {}")
        library.make("u", P("{k<t 0>}"))
        library.change("t", E("set a x 1"))
        library.make("v", P("<u 0>"))
        for index, at in ((0, 2), (2, 4)):
            with self.assertRaises(Broken) as held:
                without(library, index)
            self.assertEqual(vars(held.exception), {"index": at})
        self.assertEqual(without(library, 1).names(), ["t", "u", "v"])
        self.assertEqual(text(without(library, 3), "t"), "{a{}}")
        library.change("t", E("put a/b {}"))
        library.rename_child("t", path("a/b"), "c")
        with self.assertRaises(Broken) as held:
            without(library, 5)
        self.assertEqual(vars(held.exception), {"index": 6})
