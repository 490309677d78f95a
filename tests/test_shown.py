"""[20], [21]: what pieces, uses, templates and releases show, and the questions to a library."""

import unittest

from tests.samples import JUNK, lists, paths_of, tuples
from tests.shelf import P, T, agrees, shelf, show
from variantnest.errors import UnknownRelease, UnknownTemplate
from variantnest.library import Library

LAMP = "lamp {on=1, to=@bulb, bulb{watts=40, home=@.}, cord{}}"


class Showing(unittest.TestCase):

    def shows(self, library, name, text):
        self.assertEqual(library.shown(name), T(text))
        agrees(self, library)

    def test_a_node_shows_itself(self):
        library = shelf(LAMP)
        self.shows(library, "lamp", "{on=1, to=@bulb, bulb{watts=40, home=@.}, cord{}}")
        self.shows(shelf("t {}"), "t", "{}")

    def test_a_variant(self):
        library = shelf(LAMP, "other <lamp 0: hide cord; set bulb watts 60; drop . on; put plug {pins=2}>")
        self.shows(library, "other", "{to=@bulb, bulb{watts=60, home=@.}, plug{pins=2}}")

    def test_uses_below_nodes(self):
        library = shelf(LAMP, "room {x=1, wall{left<lamp 0>, right<lamp 0: hide bulb; set . to @wall/left>}}")
        self.shows(
            library, "room",
            "{x=1, wall{left{on=1, to=@wall/left/bulb, bulb{watts=40, home=@wall/left}, cord{}},"
            " right{on=1, to=@wall/left, cord{}}}}",
        )

    def test_links_of_used_templates_get_the_path_and_those_of_the_definition_none(self):
        library = shelf(
            "a {l=@x, x{}}", "b {k<a 0: set . m @z; put y {n=@y, o{p=@.}}; set x q @k>}",
            "c {h<b 0>, i{j<b 0: set k/y n @h>}}",
        )
        self.shows(library, "b", "{k{l=@k/x, m=@z, x{q=@k}, y{n=@y, o{p=@.}}}}")
        self.shows(
            library, "c",
            "{h{k{l=@h/k/x, m=@h/z, x{q=@h/k}, y{n=@h/y, o{p=@h}}}},"
            " i{j{k{l=@i/j/k/x, m=@i/j/z, x{q=@i/j/k}, y{n=@h, o{p=@i/j}}}}}}",
        )

    def test_uses_in_put_entries(self):
        library = shelf("a {l=@x, x{}}", "b {s{}}", "c {k<b 0: put s/t <a 0: put x/y <a 0>; set x v @k>>}")
        self.shows(library, "c", "{k{s{t{l=@k/s/t/x, x{v=@k, y{l=@k/s/t/x/y/x, x{}}}}}}}")

    def test_put_entries_that_rest(self):
        library = shelf("a {x{}}", "b <a 0: put x <a 0>; put y/z {}; hide q; set q v 1>")
        self.shows(library, "b", "{x{}}")

    def test_releases(self):
        library = shelf(LAMP, "room {one<lamp 0>, two<lamp 0>}")
        self.assertEqual(library.release("lamp"), 1)
        library.change("lamp", ("set", ("bulb",), "watts", 5))
        library.release("lamp")
        library.change("lamp", ("hide", ("cord",)))
        library.define("room", P("{one<lamp 1>, two<lamp 2: drop . to>, tri<lamp 0>}"))
        self.shows(
            library, "room",
            "{one{on=1, to=@one/bulb, bulb{watts=40, home=@one}, cord{}}, two{on=1, bulb{watts=5, home=@two}, cord{}},"
            " tri{on=1, to=@tri/bulb, bulb{watts=5, home=@tri}}}",
        )
        self.assertEqual([show(library, "lamp", number) for number in range(3)], [
            "{on=1, to=@bulb, bulb{home=@., watts=5}}", "{on=1, to=@bulb, bulb{home=@., watts=40}, cord{}}",
            "{on=1, to=@bulb, bulb{home=@., watts=5}, cord{}}",
        ])

    def test_a_release_stays_what_was_shown(self):
        library = shelf("a {x=1}", "b <a 0: put c {}>")
        library.release("b")
        for step in (("set", (), "x", 2), ("put", ("c",), ("node", (), ())), ("put", ("d",), ("node", (), ()))):
            library.change("a", step)
            self.assertEqual(library.shown("b", 1), T("{x=1, c{}}"))
        self.shows(library, "b", "{x=2, c{}, d{}}")

    def test_the_order_of_the_deeds_does_not_matter(self):
        rows = ["a {x=1, k{}}", "b <a 0: set . x 2; put k/l {}>", "c {p<b 0>, q<a 0: hide k>}"]
        library = shelf(*rows)
        other = shelf("a {}", "b {}", "c {}")
        for row in rows[::-1]:
            other.define(row[0], P(row[2:]))
        self.assertEqual([library.shown(name) for name in "abc"], [other.shown(name) for name in "abc"])
        self.assertEqual(library, other)

    def test_hidden_parts_may_be_large_and_deep(self):
        many = ", ".join(f"{one}{other}" + "{}" for one in "abcdefghijklmnopqrst" for other in "abcdefghijklmno")
        library = shelf("big {h{%s}}" % many, "deep {a{b{c{d{e{f{g{l=@a/b/c/d/e/f/g/h, h{}}}}}}}}}")
        library.make("two", P("{x<big 0: hide h>, y<big 0: hide h>, z<big 0>, d<deep 0: hide a/b/c/d/e/f/g>}"))
        self.assertEqual(len(paths_of(library.shown("two"))), 1 + 1 + 1 + 302 + 7)
        library.make("put", P("<big 0: put a <big 0: hide h>; put h/aa <big 0>>"))
        agrees(self, library)


class Questions(unittest.TestCase):

    def library(self):
        library = shelf("a {x=1}", "c {k<a 0>}", "b {m<c 0: put k/a <a 0>>, h{j<a 0: set . x 2>}, n<a 0>}")
        library.release("a")
        library.define("c", P("{k<a 1>}"))
        library.make("d", P("<b 0: hide z; put q/r <c 0>>"))
        return library

    def test_no_templates(self):
        self.assertEqual(Library().names(), [])

    def test_names(self):
        library = self.library()
        self.assertEqual(library.names(), ["a", "b", "c", "d"])

    def test_definition(self):
        library = self.library()
        self.assertEqual(library.definition("c"), ("node", (), (("k", ("use", "a", 1, ())),)))
        self.assertEqual(library.definition(name="d")[1:3], ("b", 0))

    def test_shown_and_releases(self):
        library = self.library()
        self.assertEqual(library.shown("a"), library.shown("a", 0))
        self.assertEqual(library.shown(name="a", release=1), T("{x=1}"))
        self.assertEqual([library.releases(name) for name in "abcd"], [1, 0, 0, 0])

    def test_uses(self):
        library = self.library()
        self.assertEqual(library.uses("a"), [])
        self.assertEqual(library.uses("c"), [(("k",), "a", 1, ())])
        self.assertEqual(library.uses("b"), [
            (("h", "j"), "a", 0, (("set", (), "x", 2),)),
            (("m",), "c", 0, (("put", ("k", "a"), ("use", "a", 0, ())),)), (("n",), "a", 0, ()),
        ])
        self.assertEqual([row[:3] for row in library.uses("d")], [((), "b", 0)])

    def test_users(self):
        library = self.library()
        self.assertEqual([library.users(name) for name in "abcd"], [["b", "c"], ["d"], ["b", "d"], []])
        library.release("d")
        library.define("d", P("{x<d 1>}"))
        self.assertEqual(library.users("d"), ["d"])
        library.define("d", P("<b 0: hide h; put h/j <a 1>>"))
        self.assertEqual(library.users("a"), ["b", "c", "d"])

    def test_lists_are_new(self):
        library = self.library()
        for ask in (
            library.names, lambda: library.uses("b"), lambda: library.users("a"), lambda: library.log("a"),
            lambda: library.places("a"), library.history, lambda: library.sources("a", (), "x"),
        ):
            before = ask()
            ask().append("x")
            ask().clear()
            self.assertEqual(ask(), before)
            self.assertIsInstance(before, list)

    def test_unknown_templates(self):
        library = self.library()
        for name in (*[value for value in JUNK if value != "a"], "q", lists(("a",))):
            for ask in (
                library.definition, library.shown, library.releases, library.uses, library.users, library.log,
                library.places, lambda name: library.shown(name, 7), lambda name: library.sources(name, None, None),
            ):
                with self.assertRaises(UnknownTemplate) as held:
                    ask(name)
                self.assertEqual(vars(held.exception), {"name": tuples(name)})

    def test_unknown_releases(self):
        library = self.library()
        for number in [value for value in JUNK if value is True or value is False or value not in (0, 1)] + [2, -1]:
            with self.assertRaises(UnknownRelease) as held:
                library.shown("a", number)
            self.assertEqual(vars(held.exception), {"name": "a", "number": tuples(number)})
        self.assertRaises(UnknownRelease, library.shown, "b", 1)
