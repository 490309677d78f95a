"""[33]: uses moved to other releases."""

import unittest

from tests.plain import own_paths, part, replaced
from tests.samples import JUNK, deep, paths_of, seeded, tuples
from tests.shelf import P, agrees, keeps, path, shelf, show, text, trees
from tests.stories import KEEPING, some_override, some_step
from variantnest.errors import (
    Clash, NoUse, Older, Ring, TooLarge, UnknownRelease, UnknownTemplate, VariantError,
)
from variantnest.library import Library

OTHERS = (*JUNK, deep(300), deep(300, list))


def renamed(*rows):
    """A library with the template t, of which a release was made, and templates that use this."""
    library = shelf("t {x=1, l=@a, a{y=2, b{z=3}}, c{}}")
    library.release("t")
    for row in rows:
        name, _, words = row.partition(" ")
        library.make(name, P(words))
    return library


class Upgrade(unittest.TestCase):

    def test_entries_links_and_live_uses(self):
        library = renamed(
            "u {m=@k/a/b, k<t 1: hide c; set a y @k/a; set a/b z 4; put a/q {n=@k/a/b}>}",
            "v {o=@u/k/a, u<u 0: set k/a/b z 5; drop k x>}",
        )
        library.rename_child("t", ("a",), "e")
        library.rename_child("t", path("e/b"), "f")
        library.rename_prop("t", path("e/f"), "z", "w")
        library.rename_prop("t", (), "x", "v")
        before = trees(library)
        self.assertEqual(library.upgrade("u", ("k",), 0), [])
        self.assertEqual(text(library, "u"),
                         "{m=@k/e/f, k<t 0: hide c; set e y @k/e; set e/f w 4; put e/q {n=@k/e/f}>}")
        self.assertEqual(text(library, "v"), "{o=@u/k/e, u<u 0: drop k v; set k/e/f w 5>}")
        self.assertEqual(show(library, "v"),
                         "{o=@u/k/e, u{m=@u/k/e/f, k{l=@u/k/e, e{y=@u/k/e, f{w=5}, q{n=@u/k/e/f}}}}}")
        self.assertEqual(library.log("u"), [
            ("child", path("k/a"), "e"), ("child", path("k/e/b"), "f"), ("prop", path("k/e/f"), "z", "w"),
            ("prop", ("k",), "x", "v"),
        ])
        self.assertEqual(library.log("v"), [
            ("child", path("u/k/a"), "e"), ("child", path("u/k/e/b"), "f"), ("prop", path("u/k/e/f"), "z", "w"),
            ("prop", path("u/k"), "x", "v"),
        ])
        self.assertEqual(before["t"], library.shown("t"))
        self.assertEqual(library.history()[-1], ("upgrade", "u", ("k",), 0))
        agrees(self, library)

    def test_to_a_later_release_step_by_step(self):
        library = renamed("u <t 1: set a y 9; set a/b z 9>")
        library.rename_child("t", ("a",), "e")
        library.release("t")
        library.rename_prop("t", ("e",), "y", "yy")
        library.release("t")
        library.rename_child("t", ("e",), "a")
        other = library.copy()
        self.assertEqual(library.upgrade("u", (), 2), [])
        self.assertEqual(text(library, "u"), "<t 2: set e y 9; set e/b z 9>")
        self.assertEqual(library.upgrade(name="u", place=[], release=3), [])
        self.assertEqual(text(library, "u"), "<t 3: set e yy 9; set e/b z 9>")
        self.assertEqual(library.upgrade("u", (), 0), [])
        self.assertEqual(text(library, "u"), "<t 0: set a yy 9; set a/b z 9>")
        self.assertEqual(other.upgrade("u", (), 0), [])
        self.assertTrue(library == other)
        self.assertEqual(library.log("u"), library.log("t"))

    def test_to_the_same_and_of_a_live_use(self):
        library = renamed("u {k<t 1: set a y 9>, m<t 0: set a y 9>}")
        library.rename_child("t", ("a",), "e")
        before = library.copy()
        self.assertEqual(library.upgrade("u", ("k",), 1), [])
        self.assertEqual(library.upgrade("u", ("m",), 0), [])
        self.assertTrue(library == before)
        self.assertEqual(len(library.history()), len(before.history()) + 2)

    def test_the_returned_keys(self):
        library = shelf("t {x=1, y=2, l=@a, a{x=1, y=2}, b{x=1}, c{x=1}, d{}, e{x=1}}")
        library.release("t")
        library.make("u", P(
            "{k<t 1: hide e; drop . x; drop d w; drop d z; set . l 5; set . y 3; set a x 4; set a y 5; set b x 6;"
            " set c x 7; set e x 8; set q x 9>}",
        ))
        for words in (("x", 2), ("l", ("link", ("b",)))):
            library.change("t", ("set", (), *words))
        library.change("t", ("set", ("a",), "y", 3))
        library.change("t", ("hide", ("b",)))
        library.change("t", ("drop", ("c",), "x"))
        library.change("t", ("set", ("d",), "z", 1))
        library.change("t", ("set", ("e",), "x", 2))
        library.change("t", ("put", ("q",), P("{x=1}")))
        library.rename_child("t", ("a",), "aa")
        library.rename_prop("t", ("aa",), "y", "b")
        self.assertEqual(library.upgrade("u", ("k",), 0), [
            ("prop", (), "l"), ("prop", (), "x"), ("prop", ("aa",), "b"), ("prop", ("c",), "x"), ("prop", ("d",), "z"),
            ("prop", ("e",), "x"),
        ])

    def test_the_returned_keys_ascend_under_their_new_names(self):
        library = shelf("t {x=1, y=1, a{x=1}, b{x=1}}")
        library.release("t")
        library.make("u", P("<t 1: set . x 3; set . y 3; set a x 3; set b x 3>"))
        library.define("t", P("{x=2, y=2, a{x=2}, b{x=2}}"))
        library.rename_child("t", ("a",), "z")
        library.rename_prop("t", (), "x", "zz")
        self.assertEqual(library.upgrade("u", (), 0), [
            ("prop", (), "y"), ("prop", (), "zz"), ("prop", ("b",), "x"), ("prop", ("z",), "x"),
        ])

    def test_links_are_compared_as_the_releases_show_them(self):
        library = shelf("t {l=@a, m=@b, a{}, b{}}")
        library.release("t")
        library.make("u", P("{k<t 1: drop . m; set . l 5>}"))
        library.rename_child("t", ("a",), "z")
        self.assertEqual(library.upgrade("u", ("k",), 0), [("prop", (), "l")])

    def test_a_renamed_prop_with_its_value(self):
        library = shelf("t {x=1, y=2}")
        library.release("t")
        library.make("u", P("<t 1: set . x 5; set . y 6; set . z 7>"))
        library.rename_prop("t", (), "x", "w")
        library.rename_prop("t", (), "y", "x")
        self.assertEqual(library.upgrade("u", (), 0), [])
        self.assertEqual(text(library, "u"), "<t 0: set . w 5; set . x 6; set . z 7>")
        library.release("t")
        library.define("u", P("<t 2: set . x 5; set . w 6>"))
        library.define("t", P("{x=1, w=2}"))
        self.assertEqual(library.upgrade("u", (), 0), [("prop", (), "w"), ("prop", (), "x")])

    def test_put_entries_that_act_above_at_and_below(self):
        library = renamed(
            "over {l=@k/a/b, m=@k/a, k<t 1: hide a; set a/b z 1; put a {b{}}>}",
            "at {l=@k/a/b, m=@k/a, k<t 1: hide a/b; set a/b z 1; put a/b {z=2}>}",
            "rest {l=@k/a/b, m=@k/a, k<t 1: put a {b{}}; put a/b {}>}",
            "low {l=@k/a/b, m=@k/a/b/q, k<t 1: put a/b/q {}>}",
            "top {n=@m/k/a/b, m<at 0: set k/a/b z 5>, o<over 0: set k/a/b z 6>}",
        )
        library.rename_child("t", path("a/b"), "e")
        library.rename_prop("t", path("a/e"), "z", "w")
        library.rename_child("t", ("a",), "d")
        for name in ("over", "at", "rest", "low"):
            library.upgrade(name, ("k",), 0)
        self.assertEqual({name: text(library, name) for name in ("over", "at", "rest", "low", "top")}, {
            "over": "{l=@k/d/b, m=@k/d, k<t 0: hide d; set d/e w 1; put d {b{}}>}",
            "at": "{l=@k/d/e, m=@k/d, k<t 0: hide d/e; set d/e w 1; put d/e {z=2}>}",
            "rest": "{l=@k/d/e, m=@k/d, k<t 0: put d {b{}}; put d/e {}>}",
            "low": "{l=@k/d/e, m=@k/d/e/q, k<t 0: put d/e/q {}>}",
            "top": "{n=@m/k/d/e, m<at 0: set k/d/e z 5>, o<over 0: set k/d/b z 6>}",
        })
        self.assertEqual([library.log(name) for name in ("over", "at", "rest", "low")], [
            [("child", path("k/a"), "d")], [("child", path("k/a/b"), "e"), ("child", path("k/a"), "d")],
            [("child", path("k/a/b"), "e"), ("prop", path("k/a/e"), "z", "w"), ("child", path("k/a"), "d")],
            [("child", path("k/a/b"), "e"), ("prop", path("k/a/e"), "z", "w"), ("child", path("k/a"), "d")],
        ])
        agrees(self, library)

    def test_put_entries_further_on(self):
        library = renamed(
            "u {k<t 1>}", "v {l=@u/k/a/b, u<u 0: hide k/a; put k/a {b{}}>}", "w {l=@u/k/a/b, u<u 0: hide k/a>}",
            "x <v 0: set u/k/a/b q 1>",
        )
        library.rename_child("t", path("a/b"), "e")
        library.rename_child("t", ("a",), "d")
        library.upgrade("u", ("k",), 0)
        self.assertEqual([text(library, name) for name in "vwx"], [
            "{l=@u/k/d/b, u<u 0: hide k/d; put k/d {b{}}>}", "{l=@u/k/d/e, u<u 0: hide k/d>}",
            "<v 0: set u/k/d/b q 1>",
        ])
        self.assertEqual([len(library.log(name)) for name in "uvwx"], [2, 1, 2, 1])
        agrees(self, library)

    def test_which_put_entries_act_is_as_it_was_ahead(self):
        library = shelf("t {a{}}")
        library.release("t")
        library.make("u", P("{}"))
        library.make("v", P("{}"))
        library.change("t", ("put", ("a", "b"), P("{c{}}")))
        library.change("t", ("put", ("q",), P("{r{}}")))
        library.rename_child("t", path("a/b/c"), "z")
        library.rename_child("t", path("q/r"), "z")
        library.define("u", P("{l=@k/a/b/c, k<t 1: put a/b {c{}}>}"))
        library.define("v", P("{l=@k/q/r, k<t 1: put q {r{}}>}"))
        library.upgrade("u", ("k",), 0)
        library.upgrade("v", ("k",), 0)
        self.assertEqual(text(library, "u"), "{l=@k/a/b/c, k<t 0: put a/b {c{}}>}")
        self.assertEqual(text(library, "v"), "{l=@k/q/r, k<t 0: put q {r{}}>}")
        self.assertEqual(library.log("u"), [("child", path("k/q/r"), "z")])
        self.assertEqual(library.log("v"), [("child", path("k/a/b/c"), "z")])

    def test_longer_paths_than_eight_names(self):
        library = shelf("t {a{b{c{d{}}}}}")
        library.release("t")
        library.make("u", P("{p{q{r{s{t<t 1: hide a/b/c>}}}}}"))
        library.rename_child("t", path("a/b/c/d"), "z")
        library.rename_child("t", path("a/b/c"), "y")
        library.upgrade("u", path("p/q/r/s/t"), 0)
        self.assertEqual(text(library, "u"), "{p{q{r{s{t<t 0: hide a/b/y>}}}}}")
        self.assertEqual(library.log("u"), [("child", path("p/q/r/s/t/a/b/c"), "y")])

    def test_a_release_of_its_own(self):
        library = shelf("t {a{}}")
        library.release("t")
        library.define("t", P("{l=@k/a, a{}, k<t 1: set a x 1>}"))
        library.rename_child("t", ("a",), "b")
        library.release("t")
        self.assertEqual(library.upgrade("t", ("k",), 2), [])
        self.assertEqual(text(library, "t"), "{l=@k/b, b{}, k<t 2: set b x 1>}")
        self.assertEqual(library.log("t"), [("child", ("a",), "b"), ("child", path("k/a"), "b")])
        keeps(self, library, Ring, (("t",),), "upgrade", "t", ("k",), 0)

    def test_the_result_is_new(self):
        library = renamed("u <t 1: set . x 2>")
        library.change("t", ("set", (), "x", 7))
        before = library.copy()
        library.upgrade("u", (), 0).append(1)
        self.assertEqual(before.upgrade("u", (), 0), [("prop", (), "x")])


class Refused(unittest.TestCase):

    def test_wrong(self):
        library = renamed("u {k<t 1>, m<t 0>}")
        library.release("t")
        library.release("u")
        for value in OTHERS:
            keeps(self, library, UnknownTemplate, (tuples(value),), "upgrade", value, None, None)
            keeps(self, library, NoUse, (tuples(value),), "upgrade", "u", value, None)
            if value is True or value is False or value not in (0, 1):
                keeps(self, library, UnknownRelease, ("t", tuples(value)), "upgrade", "u", ("k",), value)
                keeps(self, library, UnknownRelease, ("t", tuples(value)), "upgrade", "u", ("m",), value)
        for number in (3, -1, 10 ** 29):
            keeps(self, library, UnknownRelease, ("t", number), "upgrade", "u", ("k",), number)
        keeps(self, library, NoUse, (("a",),), "upgrade", "t", ("a",), 0)

    def test_older(self):
        library = renamed("u {k<t 1>, m<t 0>}")
        library.release("t")
        library.release("t")
        library.upgrade("u", ("k",), 2)
        keeps(self, library, Older, (1,), "upgrade", "u", ("k",), 1)
        for number in (1, 2, 3):
            keeps(self, library, Older, (number,), "upgrade", "u", ("m",), number)

    def test_older_ahead_of_clash(self):
        library = renamed("u {k<t 1: set e x 1>}")
        library.rename_child("t", ("a",), "e")
        library.release("t")
        keeps(self, library, Clash, ("u", ("prop", ("e",), "x")), "upgrade", "u", ("k",), 2)
        library.define("u", P("{k<t 2: set e x 1>}"))
        keeps(self, library, Older, (1,), "upgrade", "u", ("k",), 1)

    def test_clash_behind_renamings_that_went_through(self):
        library = renamed("u {k<t 1: set a/b q 1; put e/g {}>}")
        library.rename_child("t", path("a/b"), "g")
        library.rename_child("t", ("a",), "h")
        library.rename_child("t", ("c",), "e")
        keeps(self, library, Clash, ("u", ("put", path("e/g"))), "upgrade", "u", ("k",), 0)
        library.define("u", P("{k<t 1: set a/b q 1; set a/b z 2>}"))
        library.rename_prop("t", path("h/g"), "z", "q")
        keeps(self, library, Clash, ("u", ("prop", path("h/g"), "q")), "upgrade", "u", ("k",), 0)

    def test_clash_in_templates_further_on(self):
        library = renamed("u {k<t 1>}", "v {u<u 0: hide k/e>}", "a <u 0: set k/c e 1; set k/a e 2>")
        library.rename_prop("t", ("a",), "y", "e")
        library.rename_child("t", ("a",), "e")
        keeps(self, library, Clash, ("a", ("prop", path("k/a"), "e")), "upgrade", "u", ("k",), 0)
        library.define("a", P("<u 0: set k/c e 1>"))
        keeps(self, library, Clash, ("v", ("hide", path("k/e"))), "upgrade", "u", ("k",), 0)
        library.define("v", P("{}"))
        self.assertEqual(library.upgrade("u", ("k",), 0), [])

    def test_clash_ahead_of_rings_and_sizes(self):
        library = shelf("t {a{}}")
        library.release("t")
        library.make("u", P("{k<t 1: hide e>}"))
        library.define("t", P("{a{}, u<u 0>}"))
        library.rename_child("t", ("a",), "e")
        keeps(self, library, Clash, ("u", ("hide", ("e",))), "upgrade", "u", ("k",), 0)
        library.define("u", P("{k<t 1>}"))
        with self.assertRaises(Ring) as held:
            library.upgrade("u", ("k",), 0)
        self.assertIn(held.exception.circle, [("t", "u"), ("u", "t")])
        library = shelf("t {}")
        library.release("t")
        library.make("u", P("{k<t 1>}"))
        library.define("t", P("{a{b{c{d{e{f{g{h{}}}}}}}}}"))
        keeps(self, library, TooLarge, ("u",), "upgrade", "u", ("k",), 0)


class Twins(unittest.TestCase):

    def test_the_entries_that_a_live_use_would_have(self):
        counts = [self.twins(number) for number in range(150)]
        self.assertGreater(len([many for many in counts if many > 5]), 40)

    def twins(self, number):
        """A use of a release, upgraded behind some renamings, is what a live use became by them."""
        rng = seeded(number)
        library = Library()
        for _ in range(12):
            self.tried(library, some_step(rng, library, KEEPING))
        found = [(name, use) for name in library.names() for use in library.uses(name) if use[2] == 0]
        if not found:
            return 0
        name, (place, used, _, _) = rng.choice(found)
        for _ in range(3):
            paths = [some for some in sorted(paths_of(library.shown(name))) if some[:len(place)] == place]
            self.tried(library, ("change", name, some_override(rng, library, (), paths)) if paths else ("release", name))
        use = part(library.definition(name), place)
        if use is None or use[:3] != ("use", used, 0):
            return 0
        release = library.release(used)
        live, frozen = library.copy(), library.copy()
        frozen.define(name, replaced(frozen.definition(name), place, (*use[:2], release, use[3])))
        many = 0
        for _ in range(20):
            step = self.renaming(rng, live, used)
            if step[1] != name and self.tried(live, step):
                self.assertTrue(self.tried(frozen, step))
                many += 1
        frozen.upgrade(name, place, 0)
        self.assertEqual({some: live.definition(some) for some in live.names()},
                         {some: frozen.definition(some) for some in live.names()})
        self.assertEqual(trees(live), trees(frozen))
        self.assertEqual([len(live.log(some)) for some in live.names()], [len(frozen.log(some)) for some in live.names()])
        return many

    def renaming(self, rng, library, used):
        own = own_paths(library.definition(used))
        if len(own) > 1 and rng.random() < 0.6:
            return ("rename_child", used, rng.choice(own[1:]), rng.choice(("n", "m", "o", "p")))
        return some_step(rng, library, ("rename_child", "rename_prop", "rename_prop"))

    def tried(self, library, step):
        try:
            getattr(library, step[0])(*step[1:])
        except VariantError:
            return False
        return True
