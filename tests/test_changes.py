"""[24], [25], [26]: changes of what is shown, and entries taken out."""

import unittest

from tests import samples
from tests.plain import Plain, entry_shown
from tests.refusals import is_override
from tests.samples import EIGHT, JUNK, deep, lists, paths_of, tuples
from tests.shelf import E, P, agrees, keeps, path, shelf, show, text, trees
from variantnest.errors import BadEntry, IdInUse, NoKey, NoNode, NoUse, Ring, TooLarge, UnknownTemplate

OTHERS = (*JUNK, deep(300), deep(300, list))
LAMP = "lamp {on=1, bulb{watts=40, wire{x=1}}, cord{}}"


class Change(unittest.TestCase):

    def becomes(self, library, name, entry, behind):
        """A change writes this into the definition, and shows what the entry makes of what was shown."""
        entry = E(entry)
        before = trees(library)
        expected = samples.applied((entry_shown(Plain(library), entry),), before[name])
        others = {some: library.definition(some) for some in library.names() if some != name}
        self.assertIsNone(library.change(name, entry))
        self.assertEqual(text(library, name), behind)
        self.assertEqual(library.shown(name), expected)
        agrees(self, library)
        self.assertEqual({some: library.definition(some) for some in others}, others)
        self.assertEqual(library.history()[-1], ("change", name, entry))

    def test_own_nodes(self):
        library = shelf(LAMP)
        for entry, behind in (
            ("set . on 2", "{on=2, bulb{watts=40, wire{x=1}}, cord{}}"),
            ("set . a @bulb", "{a=@bulb, on=2, bulb{watts=40, wire{x=1}}, cord{}}"),
            ("drop . on", "{a=@bulb, bulb{watts=40, wire{x=1}}, cord{}}"),
            ("drop . on", "{a=@bulb, bulb{watts=40, wire{x=1}}, cord{}}"),
            ("set bulb/wire x 1", "{a=@bulb, bulb{watts=40, wire{x=1}}, cord{}}"),
            ("set bulb/wire y z", "{a=@bulb, bulb{watts=40, wire{x=1, y=z}}, cord{}}"),
            ("drop bulb watts", "{a=@bulb, bulb{wire{x=1, y=z}}, cord{}}"),
            ("put bulb/a {q=1, r{}}", "{a=@bulb, bulb{a{q=1, r{}}, wire{x=1, y=z}}, cord{}}"),
            ("put d {}", "{a=@bulb, bulb{a{q=1, r{}}, wire{x=1, y=z}}, cord{}, d{}}"),
            ("hide bulb/wire", "{a=@bulb, bulb{a{q=1, r{}}}, cord{}, d{}}"),
            ("hide bulb", "{a=@bulb, cord{}, d{}}"),
        ):
            self.becomes(library, "lamp", entry, behind)

    def test_uses_are_children_of_own_nodes(self):
        library = shelf(LAMP, "room {x{}}")
        self.becomes(library, "room", "put x/l <lamp 0: set . on 5>", "{x{l<lamp 0: set . on 5>}}")
        self.becomes(library, "room", "put m <lamp 0>", "{m<lamp 0>, x{l<lamp 0: set . on 5>}}")
        self.becomes(library, "room", "hide x/l", "{m<lamp 0>, x{}}")
        self.becomes(library, "room", "hide m", "{x{}}")

    def test_in_uses(self):
        library = shelf(LAMP, "room {x{l<lamp 0>}}")
        for entry, behind in (
            ("set x/l on 2", "{x{l<lamp 0: set . on 2>}}"),
            ("set x/l/bulb/wire y @x", "{x{l<lamp 0: set . on 2; set bulb/wire y @x>}}"),
            ("drop x/l on", "{x{l<lamp 0: drop . on; set bulb/wire y @x>}}"),
            ("put x/l/a {z=@x/l}", "{x{l<lamp 0: drop . on; set bulb/wire y @x; put a {z=@x/l}>}}"),
            ("hide x/l/cord", "{x{l<lamp 0: hide cord; drop . on; set bulb/wire y @x; put a {z=@x/l}>}}"),
            ("put x/l/cord <lamp 0>",
             "{x{l<lamp 0: hide cord; drop . on; set bulb/wire y @x; put a {z=@x/l}; put cord <lamp 0>>}}"),
            ("drop x/l/bulb/wire x",
             "{x{l<lamp 0: hide cord; drop . on; drop bulb/wire x; set bulb/wire y @x; put a {z=@x/l};"
             " put cord <lamp 0>>}}"),
        ):
            self.becomes(library, "room", entry, behind)

    def test_at_the_root(self):
        library = shelf(LAMP, "v <lamp 0>")
        self.becomes(library, "v", "set . on 2", "<lamp 0: set . on 2>")
        self.becomes(library, "v", "put a {}", "<lamp 0: set . on 2; put a {}>")
        self.becomes(library, "v", "hide bulb", "<lamp 0: hide bulb; set . on 2; put a {}>")

    def test_releases(self):
        library = shelf(LAMP)
        library.release("lamp")
        library.make("room", P("{l<lamp 1>}"))
        library.change("lamp", E("set . on 2"))
        self.becomes(library, "room", "set l on 2", "{l<lamp 1: set . on 2>}")
        self.becomes(library, "room", "set l on 1", "{l<lamp 1>}")
        self.becomes(library, "room", "hide l/cord", "{l<lamp 1: hide cord>}")

    def test_uses_of_uses(self):
        library = shelf(LAMP, "room {l<lamp 0: set . on 2>}", "house {r<room 0: set l/bulb watts 5>}", "town <house 0>")
        self.becomes(library, "house", "set r/l on 3", "{r<room 0: set l on 3; set l/bulb watts 5>}")
        self.becomes(library, "house", "set r/l on 2", "{r<room 0: set l/bulb watts 5>}")
        self.becomes(library, "town", "set r/l/bulb watts 6", "<house 0: set r/l/bulb watts 6>")
        self.becomes(library, "town", "drop r/l/bulb watts", "<house 0: drop r/l/bulb watts>")
        self.becomes(library, "town", "set r/l/bulb watts 5", "<house 0>")

    def test_what_is_shown_anyhow(self):
        library = shelf("a {x=1, l=@b, b{}}", "c {k<a 0: set . x 2; set . l 5; drop b q; set b y 1>}")
        self.becomes(library, "c", "set k x 1", "{k<a 0: set . l 5; drop b q; set b y 1>}")
        self.becomes(library, "c", "set k x 1", "{k<a 0: set . l 5; drop b q; set b y 1>}")
        self.becomes(library, "c", "set k l @b", "{k<a 0: set . l @b; drop b q; set b y 1>}")
        self.becomes(library, "c", "set k l @k/b", "{k<a 0: drop b q; set b y 1>}")
        self.becomes(library, "c", "drop k/b y", "{k<a 0: drop b q>}")
        self.becomes(library, "c", "drop k/b q", "{k<a 0>}")
        self.becomes(library, "c", "drop k/b z", "{k<a 0>}")
        self.becomes(library, "c", "drop k x", "{k<a 0: drop . x>}")
        self.becomes(library, "c", "set k x 1", "{k<a 0>}")

    def test_a_link_of_a_use_far_below(self):
        library = shelf("a {l=@b, b{}}", "c {x{y{k<a 0: set . l 1>}}}")
        self.becomes(library, "c", "set x/y/k l @k/b", "{x{y{k<a 0: set . l @k/b>}}}")
        self.becomes(library, "c", "set x/y/k l @y/k/b", "{x{y{k<a 0: set . l @y/k/b>}}}")
        self.becomes(library, "c", "set x/y/k l @x/y/k/b", "{x{y{k<a 0>}}}")

    def test_a_link_in_a_put_piece_and_its_use(self):
        library = shelf("a {l=@b, b{}}", "c {k<a 0: put d <a 0: set . l 1>>}")
        self.becomes(library, "c", "set k/d l @k/b", "{k<a 0: put d <a 0: set . l @k/b>>}")
        self.becomes(library, "c", "set k/d l @k/d/b", "{k<a 0: put d <a 0>>}")

    def test_put_entries_that_act(self):
        library = shelf("a {b{}}", "c {k<a 0: put d {x=1, e{}}>}")
        self.becomes(library, "c", "set k/d x 2", "{k<a 0: put d {x=2, e{}}>}")
        self.becomes(library, "c", "drop k/d x", "{k<a 0: put d {e{}}>}")
        self.becomes(library, "c", "put k/d/e/f {g{}}", "{k<a 0: put d {e{f{g{}}}}>}")
        self.becomes(library, "c", "set k/d/e/f/g z @k/d", "{k<a 0: put d {e{f{g{z=@k/d}}}}>}")
        self.becomes(library, "c", "hide k/d/e/f", "{k<a 0: put d {e{}}>}")
        self.becomes(library, "c", "put k/d/u <a 0>", "{k<a 0: put d {e{}, u<a 0>}>}")
        self.becomes(library, "c", "set k/d/u/b x 1", "{k<a 0: put d {e{}, u<a 0: set b x 1>}>}")
        self.becomes(library, "c", "put k/d/u/v {w{}}", "{k<a 0: put d {e{}, u<a 0: set b x 1; put v {w{}}>}>}")
        self.becomes(library, "c", "hide k/d/u/v/w", "{k<a 0: put d {e{}, u<a 0: set b x 1; put v {}>}>}")
        self.becomes(library, "c", "hide k/d/u/v", "{k<a 0: put d {e{}, u<a 0: set b x 1>}>}")
        self.becomes(library, "c", "hide k/d/u", "{k<a 0: put d {e{}}>}")
        self.becomes(library, "c", "hide k/d", "{k<a 0>}")

    def test_hide_takes_a_put_entry_that_acts_out_and_leaves_the_rest(self):
        library = shelf(
            "a {b{c{}}}", "e {k<a 0: hide b; set b x 1; set b/c y 2; put b {d{}}; put b/q {}; put z {}>}",
        )
        self.becomes(library, "e", "hide k/b", "{k<a 0: hide b; set b x 1; set b/c y 2; put b/q {}; put z {}>}")
        self.becomes(library, "e", "hide k/z", "{k<a 0: hide b; set b x 1; set b/c y 2; put b/q {}>}")
        self.becomes(library, "e", "put k/b {}", "{k<a 0: hide b; set b x 1; set b/c y 2; put b {}; put b/q {}>}")

    def test_at_and_below_a_put_entry_that_rests(self):
        library = shelf("a {b{c{}}}", "e {k<a 0: put b {x=1, c{x=1}, d{}}; put n/o {}>}")
        self.becomes(library, "e", "set k/b x 2", "{k<a 0: set b x 2; put b {x=1, c{x=1}, d{}}; put n/o {}>}")
        self.becomes(library, "e", "put k/b/d {}",
                     "{k<a 0: set b x 2; put b {x=1, c{x=1}, d{}}; put b/d {}; put n/o {}>}")
        self.becomes(library, "e", "hide k/b/c",
                     "{k<a 0: hide b/c; set b x 2; put b {x=1, c{x=1}, d{}}; put b/d {}; put n/o {}>}")
        self.becomes(library, "e", "hide k/b", "{k<a 0: hide b; hide b/c; set b x 2; put b/d {}; put n/o {}>}")
        self.becomes(library, "e", "put k/n {}",
                     "{k<a 0: hide b; hide b/c; set b x 2; put b/d {}; put n {}; put n/o {}>}")
        self.becomes(library, "e", "put k/n/o {}",
                     "{k<a 0: hide b; hide b/c; set b x 2; put b/d {}; put n {o{}}; put n/o {}>}")

    def test_the_path_goes_through_several_definitions(self):
        library = shelf("a {b{}}", "c {k<a 0: put d <a 0: put e <a 0: put f {}>>>}", "g {m<c 0>}")
        self.becomes(library, "c", "set k/d/e/f x 1", "{k<a 0: put d <a 0: put e <a 0: put f {x=1}>>>}")
        self.becomes(library, "c", "set k/d/e/b x 1", "{k<a 0: put d <a 0: put e <a 0: set b x 1; put f {x=1}>>>}")
        self.becomes(library, "g", "hide m/k/d/e/f", "{m<c 0: hide k/d/e/f>}")
        self.becomes(library, "g", "put m/k/d/e/f {}", "{m<c 0: hide k/d/e/f; put k/d/e/f {}>}")

    def test_put_pieces_with_uses_and_links(self):
        library = shelf("a {l=@b, b{}}", "c {k<a 0>}")
        self.becomes(library, "c", "put k/b/x {m=@k, y<a 0: set b l @k/b/x; put z <a 0>>}",
                     "{k<a 0: put b/x {m=@k, y<a 0: set b l @k/b/x; put z <a 0>>}>}")
        self.assertEqual(show(library, "c"), "{k{l=@k/b, b{x{m=@k, y{l=@k/b/x/y/b, b{l=@k/b/x},"
                                             " z{l=@k/b/x/y/z/b, b{}}}}}}}")

    def test_changes_flow_down(self):
        library = shelf(LAMP, "room {l<lamp 0: set . on 2>, m<lamp 0>}")
        library.release("lamp")
        library.change("lamp", E("set . on 9"))
        library.change("lamp", E("hide bulb/wire"))
        self.assertEqual(show(library, "room"),
                         "{l{on=2, bulb{watts=40}, cord{}}, m{on=9, bulb{watts=40}, cord{}}}")
        self.assertEqual(show(library, "lamp", 1), "{on=1, bulb{watts=40, wire{x=1}}, cord{}}")

    def test_lists_and_keywords(self):
        library = shelf(LAMP)
        entry = lists(E("put bulb/a {x=1, b{}}"))
        self.assertIsNone(library.change(name="lamp", entry=entry))
        entry[2][1].append(["y", 1])
        self.assertEqual(text(library, "lamp"), "{on=1, bulb{watts=40, a{x=1, b{}}, wire{x=1}}, cord{}}")
        self.assertEqual(library.history()[-1], ("change", "lamp", E("put bulb/a {x=1, b{}}")))


class Refused(unittest.TestCase):

    def test_unknown_templates_and_bad_entries(self):
        library = shelf(LAMP)
        for value in OTHERS:
            keeps(self, library, UnknownTemplate, (tuples(value),), "change", value, None)
            if not is_override(tuples(value)):
                keeps(self, library, BadEntry, (0,), "change", "lamp", value)
        for entry in (
            ("hide", ()), ("put", (), P("{}")), ("put", ("a",), ((), ())), ("set", (), "x", True), ("set", (), "x"),
            ("drop", (), "x", 1), ("put", ("a",)), ("change", ("a",)), ("set", ["A"], "x", 1),
        ):
            keeps(self, library, BadEntry, (0,), "change", "lamp", entry)

    def test_pieces_that_are_too_deep_where_they_are_put(self):
        library = shelf("t {a{b{c{d{e{f{}}}}}}}")
        down = path("a/b/c/d/e/f")
        self.assertIsNone(library.change("t", ("put", (*down, "g"), P("{h{}}"))))
        library.undo()
        keeps(self, library, BadEntry, (0,), "change", "t", ("put", (*down, "g"), P("{h{i{}}}")))
        keeps(self, library, BadEntry, (0,), "change", "t", ("put", (*down, "g"), P("<q 0: hide h/i>")))
        keeps(self, library, UnknownTemplate, ("q",), "change", "t", ("put", (*down, "g"), P("<q 0: hide h>")))
        keeps(self, library, BadEntry, (0,), "change", "t", ("put", (*EIGHT, "i"), P("{}")))

    def test_no_node(self):
        library = shelf(LAMP, "v {l<lamp 0: hide bulb; put a {}>}")
        for entry, where in (
            ("set q x 1", "q"), ("drop bulb/q x", "bulb/q"), ("hide q", "q"), ("hide bulb/wire/x", "bulb/wire/x"),
            ("put q/r {}", "q/r"), ("put q/r <u 0>", "q/r"),
        ):
            keeps(self, library, NoNode, (path(where),), "change", "lamp", E(entry))
        for entry, where in (
            ("set l/bulb x 1", "l/bulb"), ("hide l/bulb", "l/bulb"), ("put l/bulb/x {}", "l/bulb/x"),
            ("set l/a/b x 1", "l/a/b"), ("put l/a/b/c {}", "l/a/b/c"),
        ):
            keeps(self, library, NoNode, (path(where),), "change", "v", E(entry))

    def test_id_in_use(self):
        library = shelf(LAMP, "v {l<lamp 0: put a {b{}}>}")
        keeps(self, library, IdInUse, (("bulb",),), "change", "lamp", E("put bulb {}"))
        keeps(self, library, IdInUse, (("bulb", "wire"),), "change", "lamp", E("put bulb/wire <q 0>"))
        for where in ("l", "l/bulb", "l/a", "l/a/b"):
            keeps(self, library, IdInUse, (path(where),), "change", "v", E(f"put {where} " + "{}"))

    def test_unknown_uses_rings_and_sizes(self):
        library = shelf("t {a{b{c{d{e{f{g{h{}}}}}}}}}", "v {l<t 0: hide a/b/c/d/e/f/g>}")
        keeps(self, library, UnknownTemplate, ("q",), "change", "t", E("put x <q 0>"))
        keeps(self, library, Ring, (("t",),), "change", "t", E("put x <t 0>"))
        keeps(self, library, TooLarge, ("v",), "change", "v", E("put l/x <t 0>"))


class Reset(unittest.TestCase):

    def test_reset(self):
        library = shelf(LAMP, "v {x{l<lamp 0: hide cord; set . on 2; put a {}; put q/r {}>}}", "w <v 0: hide x>")
        self.assertIsNone(library.reset("v", path("x/l"), ("hide", ("cord",))))
        self.assertEqual(text(library, "v"), "{x{l<lamp 0: set . on 2; put a {}; put q/r {}>}}")
        self.assertIsNone(library.reset("v", ["x", "l"], ["prop", [], "on"]))
        self.assertEqual(text(library, "v"), "{x{l<lamp 0: put a {}; put q/r {}>}}")
        self.assertIsNone(library.reset(name="v", place=path("x/l"), key=("put", path("q/r"))))
        self.assertIsNone(library.reset("v", path("x/l"), ("put", ("a",))))
        self.assertEqual(text(library, "v"), "{x{l<lamp 0>}}")
        self.assertIsNone(library.reset("w", (), ("hide", ("x",))))
        self.assertEqual(library.shown("w"), library.shown("v"))
        agrees(self, library)

    def test_wrong(self):
        library = shelf(LAMP, "v {x{l<lamp 0: put a <lamp 0: hide bulb>>}}")
        for value in OTHERS:
            keeps(self, library, UnknownTemplate, (tuples(value),), "reset", value, None, None)
            keeps(self, library, NoUse, (tuples(value),), "reset", "v", value, None)
            keeps(self, library, NoKey, (tuples(value),), "reset", "v", ("x", "l"), value)
            keeps(self, library, NoKey, (("prop", tuples(value), "x"),), "reset", "v", ("x", "l"), ("prop", value, "x"))
        for where in ("x", ".", "x/l/a", "x/l/bulb", "q"):
            keeps(self, library, NoUse, (path(where),), "reset", "v", path(where), ("put", ("a",)))
        for key in (("hide", ("a",)), ("put", ("b",)), ("prop", (), "on"), ("put", ("a",), P("{}"))):
            keeps(self, library, NoKey, (key,), "reset", "v", path("x/l"), key)

    def test_what_is_shown_then(self):
        library = shelf("t {a{b{c{d{e{f{g{h{}}}}}}}}}", "v {l<t 0: hide a>}")
        keeps(self, library, TooLarge, ("v",), "reset", "v", ("l",), ("hide", ("a",)))
        self.assertEqual(len(paths_of(library.shown("v"))), 2)
