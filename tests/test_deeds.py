"""[22], [23]: what every deed keeps, and templates that are made, defined, removed and renamed."""

import unittest

from tests.samples import EIGHT, JUNK, deep, full_tree, is_name, lists, tuples
from tests.plain import piece_of
from tests.refusals import is_piece
from tests.shelf import E, P, T, agrees, keeps, shelf, show, text, trees
from variantnest.errors import (
    BadName, BadPiece, InUse, NameInUse, Ring, TooLarge, UnknownRelease, UnknownTemplate, VariantError,
)
from variantnest.library import Library
from variantnest.texts import read_library

OTHERS = (*JUNK, deep(300), deep(300, list))
WIDE = [one + other for one in "abcdefghijklmnopqrst" for other in "abcdefghijklmnopqrst"]


def wide(many, ahead=""):
    """The text of a node with so many children."""
    return "{" + ", ".join(ahead + name + "{}" for name in WIDE[:many]) + "}"


def chain_text(names, props=""):
    """The text of a node with one node at each beginning of a path."""
    if not names:
        return "{" + props + "}"
    return "{" + names[0] + chain_text(names[1:], props) + "}"


class Make(unittest.TestCase):

    def test_make(self):
        library = Library()
        self.assertIsNone(library.make("t", P("{x=1}")))
        self.assertIsNone(library.make(name="u", piece=lists(P("<t 0: put a {}; set . x 2>"))))
        self.assertEqual((library.names(), show(library, "u")), (["t", "u"], "{x=2, a{}}"))
        self.assertEqual(library.definition("u"), P("<t 0: put a {}; set . x 2>"))
        self.assertEqual((library.releases("t"), library.log("t")), (0, []))

    def test_later_changes_of_a_list(self):
        piece = lists(P("{x=1, a{}}"))
        library = Library()
        library.make("t", piece)
        piece[1].append(["y", 2])
        piece[2][0][1][1].append(["z", 2])
        self.assertEqual(library.definition("t"), P("{x=1, a{}}"))
        self.assertEqual(library.history(), [("make", "t", P("{x=1, a{}}"))])

    def test_bad_names_ahead_of_all(self):
        library = shelf("t {}")
        for name in OTHERS:
            if not is_name(name):
                keeps(self, library, BadName, (tuples(name),), "make", name, None)
        keeps(self, library, BadName, ("T",), "make", "T", P("{}"))

    def test_names_in_use(self):
        library = shelf("t {}")
        keeps(self, library, NameInUse, ("t",), "make", "t", P("{}"))
        keeps(self, library, NameInUse, ("t",), "make", "t", None)

    def test_bad_pieces(self):
        library = shelf("t {}")
        for piece in (*OTHERS, T("{}"), ("use", "t", True, ()), ("use", "q", -1, ())):
            if not is_piece(tuples(piece)):
                keeps(self, library, BadPiece, (), "make", "u", piece)
                keeps(self, library, BadPiece, (), "define", "t", piece)


class Unknown(unittest.TestCase):

    def test_templates_and_releases(self):
        library = shelf("t {}")
        library.release("t")
        keeps(self, library, UnknownTemplate, ("q",), "make", "u", P("<q 0>"))
        keeps(self, library, UnknownTemplate, ("q",), "define", "t", P("{a<q 7>}"))
        keeps(self, library, UnknownRelease, ("t", 2), "make", "u", P("<t 2>"))
        keeps(self, library, UnknownRelease, ("u", 1), "make", "u", P("<u 1>"))
        keeps(self, library, UnknownRelease, ("t", 2), "define", "t", P("{a<t 2>}"))
        self.assertIsNone(library.make("u", P("<t 1>")))

    def test_the_first_one_in_the_order_in_which_it_is_written(self):
        library = shelf("t {}")
        for words, fields in (
            ("{a<q 0>, b<p 0>}", "q"), ("{a{b<q 0>}, b<p 0>}", "q"), ("{b<q 0: put a <p 0>>}", "q"),
            ("<t 0: put a <q 0>; put b <p 0>>", "q"), ("<t 0: put a {z<q 0>}; put b <p 0>>", "q"),
            ("{a<t 0: put z <q 0>>, b<p 0>}", "q"), ("<t 0: put a <t 0: put z <q 0>>; put b <p 0>>", "q"),
        ):
            keeps(self, library, UnknownTemplate, (fields,), "make", "u", P(words))
            keeps(self, library, UnknownTemplate, (fields,), "define", "t", P(words))
        for words, error, fields in (
            ("{a<t 1>, b<p 0>}", UnknownRelease, ("t", 1)), ("{a<p 0>, b<t 1>}", UnknownTemplate, ("p",)),
            ("<t 3: put a <q 0>>", UnknownRelease, ("t", 3)), ("<t 0: put a <t 3>; put b <q 0>>", UnknownRelease, ("t", 3)),
            ("<t 0: hide a; put a/b <q 0>>", UnknownTemplate, ("q",)),
        ):
            keeps(self, library, error, fields, "make", "u", P(words))
            keeps(self, library, error, fields, "change", "t", ("put", ("a",), P(words)))

    def test_ahead_of_rings_and_sizes(self):
        library = shelf("t {}", f"big {wide(300)}")
        keeps(self, library, UnknownTemplate, ("q",), "define", "t", P("{a<t 0>, b<q 0>}"))
        keeps(self, library, UnknownTemplate, ("q",), "define", "t", P("{a<big 0>, b<big 0>, c<q 0>}"))
        keeps(self, library, Ring, (("t",),), "define", "t", P("{a<big 0>, b<big 0>, c<t 0>}"))


class Rings(unittest.TestCase):

    def ringed(self, library, word, *passed):
        """The names of the ring that a deed is refused for."""
        before = library.copy()
        with self.assertRaises(Ring) as held:
            getattr(library, word)(*passed)
        self.assertTrue(library == before)
        circle = held.exception.circle
        self.assertIsInstance(circle, tuple)
        keeps(self, library, Ring, (circle,), word, *passed)
        return circle

    def turns(self, circle):
        return [circle[at:] + circle[:at] for at in range(len(circle))]

    def test_a_template_that_uses_itself(self):
        library = shelf("t {}")
        self.assertEqual(self.ringed(library, "define", "t", P("<t 0>")), ("t",))
        self.assertEqual(self.ringed(library, "define", "t", P("{a{b<t 0>}}")), ("t",))
        self.assertEqual(self.ringed(library, "make", "u", P("{a<u 0>}")), ("u",))
        self.assertEqual(self.ringed(library, "change", "t", E("put a <t 0>")), ("t",))

    def test_several_templates(self):
        library = shelf("a {}", "b {x<a 0>}", "c <b 0: put y {z{}}>", "d {x<c 0>, y<b 0>}", "e {x<d 0>}")
        circle = self.ringed(library, "define", "a", P("{x<c 0>}"))
        self.assertIn(("a", "c", "b"), self.turns(circle))
        circle = self.ringed(library, "define", "b", P("{x{y<c 0>}}"))
        self.assertIn(("b", "c"), self.turns(circle))
        circle = self.ringed(library, "define", "a", P("{x<e 0>}"))
        self.assertIn(tuple(circle), [*self.turns(("a", "e", "d", "b")), *self.turns(("a", "e", "d", "c", "b"))])

    def test_entries_that_rest(self):
        library = shelf("a {x{}}", "b <a 0: put x <a 0>; hide q; put q/r/s {t<a 0>}>", "c {}")
        circle = self.ringed(library, "define", "a", P("<c 0: put z/z/z <b 0>>"))
        self.assertIn(("a", "b"), self.turns(circle))
        circle = self.ringed(library, "define", "a", P("{x<c 0: put z/z/z <a 0>>}"))
        self.assertEqual(circle, ("a",))
        library.define("b", P("<c 0: put z/z/z <a 0>>"))
        circle = self.ringed(library, "define", "a", P("{x<b 0>}"))
        self.assertIn(("a", "b"), self.turns(circle))

    def test_releases_make_no_ring(self):
        library = shelf("a {}", "b {x<a 0>}")
        library.release("a")
        library.release("b")
        library.define("a", P("{y<a 1>, z<b 1>}"))
        self.assertEqual(show(library, "a"), "{y{}, z{x{}}}")
        self.assertEqual(show(library, "b"), "{x{y{}, z{x{}}}}")
        circle = self.ringed(library, "upgrade", "a", ("y",), 0)
        self.assertEqual(circle, ("a",))
        circle = self.ringed(library, "upgrade", "a", ("z",), 0)
        self.assertIn(("a", "b"), self.turns(circle))

    def test_rings_ahead_of_sizes(self):
        library = shelf("a {}", f"b {wide(300)}")
        self.assertEqual(self.ringed(library, "define", "a", P("{x<b 0>, y<b 0>, z<a 0>}")), ("a",))


class Sizes(unittest.TestCase):

    def test_four_hundred_nodes(self):
        library = shelf(f"a {wide(199)}", f"b {wide(200)}", f"c {wide(198)}")
        library.make("t", P("{x<a 0>, y<c 0>}"))
        self.assertEqual(len(T(show(library, "t"))[1][0][1][1]), 199)
        keeps(self, library, TooLarge, ("u",), "make", "u", P("{x<a 0>, y<a 0>}"))
        keeps(self, library, TooLarge, ("t",), "define", "t", P("{x<a 0>, y<b 0>}"))
        keeps(self, library, TooLarge, ("t",), "change", "t", E("put z {}"))
        keeps(self, library, TooLarge, ("t",), "change", "a", E("put z {}"))
        library.make("r", P("<t 0: hide x; put z {}>"))
        library.make("s", P("<t 0: hide x/aa; put z {}>"))
        keeps(self, library, TooLarge, ("s",), "reset", "s", (), ("hide", ("x", "aa")))
        keeps(self, library, TooLarge, ("s",), "change", "c", E("put z {}"))
        self.assertIsNone(library.reset("r", (), ("put", ("z",))))
        self.assertIsNone(library.reset("r", (), ("hide", ("x",))))

    def test_a_single_definition(self):
        library = Library()
        library.make("a", piece_of(full_tree(400)))
        keeps(self, library, TooLarge, ("b",), "make", "b", P(wide(400)))
        library.make("b", P(wide(399)))
        keeps(self, library, TooLarge, ("c",), "make", "c", P("{x<a 0>}"))

    def test_the_first_template_in_ascending_order(self):
        library = shelf(f"m {wide(150)}", "c {x<m 0>, y<m 0>}", "b <c 0>", "d {z<m 0>, y<m 0>}", "a <d 0: hide y>")
        keeps(self, library, TooLarge, ("b",), "change", "m", ("put", ("zz",), P(wide(60))))
        library.change("b", ("hide", ("x",)))
        keeps(self, library, TooLarge, ("c",), "change", "m", ("put", ("zz",), P(wide(60))))
        library.change("c", ("hide", ("x",)))
        keeps(self, library, TooLarge, ("d",), "change", "m", ("put", ("zz",), P(wide(60))))
        library.change("d", ("hide", ("y",)))
        library.change("m", ("put", ("zz",), P(wide(60))))
        agrees(self, library)

    def test_paths_of_nodes(self):
        library = shelf(f"t {chain_text(EIGHT)}", f"v {chain_text(EIGHT[:7])}")
        library.make("u", P("{x<v 0>, y{}}"))
        keeps(self, library, TooLarge, ("w",), "make", "w", P("{x<t 0>}"))
        keeps(self, library, TooLarge, ("u",), "change", "v", ("put", EIGHT, P("{}")))
        keeps(self, library, TooLarge, ("u",), "change", "u", ("put", ("y", "z"), P("<t 0>")))
        self.assertIsNone(library.make("w", P("{x<t 0: hide a/b/c/d/e/f/g>}")))
        keeps(self, library, TooLarge, ("w",), "reset", "w", ("x",), ("hide", EIGHT[:7]))
        agrees(self, library)

    def test_paths_of_links(self):
        library = shelf("t {l=@a/b/c/d/e/f/g/h}", "s {l=@a/b/c/d/e/f/g}", "v <t 0>")
        keeps(self, library, TooLarge, ("w",), "make", "w", P("{x<t 0>}"))
        library.make("w", P("{x<s 0>}"))
        keeps(self, library, TooLarge, ("x",), "make", "x", P("{x<w 0>}"))
        keeps(self, library, TooLarge, ("w",), "change", "s", E("set . l @a/b/c/d/e/f/g/h"))
        self.assertIsNone(library.make("x", P("{x<w 0: drop x l>, y<t 0: set . l @a/b/c/d/e/f/g/h>}")))
        keeps(self, library, TooLarge, ("x",), "reset", "x", ("x",), ("prop", ("x",), "l"))
        keeps(self, library, TooLarge, ("x",), "change", "w", E("put a <s 0>"))
        library.make("y", P("{x<t 0: drop . l>, y<v 0: set . l 1>}"))
        agrees(self, library)

    def test_releases_may_show_what_is_hidden(self):
        library = shelf(f"t {chain_text(EIGHT)}")
        library.release("t")
        keeps(self, library, TooLarge, ("u",), "make", "u", P("{x<t 1>}"))
        library.make("u", P("{x<t 1: hide a/b>}"))
        self.assertEqual(show(library, "u"), "{x{a{}}}")

    def test_towers_that_would_be_huge(self):
        rows = ["template a " + wide(59)]
        names = [f"a{sign}" for sign in "bcdefghijklmnopqr"]
        for below, name in zip(["a", *names], names):
            rows.append(f"template {name} " + "{" + ", ".join(f"{some}<{below} 0>" for some in WIDE[:59]) + "}")
        with self.assertRaises(TooLarge) as held:
            read_library("\n".join(rows))
        self.assertEqual(held.exception.name, "ab")
        for row, (below, name) in enumerate(zip(["a", *names], names)):
            hidden = "; ".join(f"hide {some}" for some in WIDE[:40])
            parts = ", ".join(f"{some}<{below} 0: {hidden}>" for some in WIDE[:59])
            rows[row + 1] = f"template {name} " + "{" + parts + "}"
        with self.assertRaises(TooLarge) as held:
            read_library("\n".join(rows))
        self.assertEqual(held.exception.name, "ab")


class Define(unittest.TestCase):

    def test_define(self):
        library = shelf("t {x=1}", "u {a<t 0>}")
        library.release("t")
        self.assertIsNone(library.define("t", P("{x=2, b{}}")))
        self.assertEqual((show(library, "t"), show(library, "u")), ("{x=2, b{}}", "{a{x=2, b{}}}"))
        self.assertEqual((library.releases("t"), show(library, "t", 1)), (1, "{x=1}"))
        self.assertIsNone(library.define(name="t", piece=["use", "t", 1, []]))
        self.assertEqual(show(library, "u"), "{a{x=1}}")

    def test_unknown_templates_ahead_of_bad_pieces(self):
        library = shelf("t {}")
        for name in OTHERS:
            keeps(self, library, UnknownTemplate, (tuples(name),), "define", name, None)
        keeps(self, library, BadPiece, (), "define", "t", ("use", "t", 0))


class Remove(unittest.TestCase):

    def test_remove(self):
        library = shelf("t {a{}}", "u {}")
        library.release("t")
        library.rename_child("t", ("a",), "b")
        self.assertIsNone(library.remove("t"))
        self.assertEqual(library.names(), ["u"])
        library.make("t", P("{}"))
        self.assertEqual((library.releases("t"), library.log("t")), (0, []))
        self.assertIsNone(library.remove(name="t"))

    def test_a_user_of_itself(self):
        library = shelf("t {}")
        library.release("t")
        library.define("t", P("{a<t 1>}"))
        self.assertIsNone(library.remove("t"))
        self.assertEqual(library.names(), [])

    def test_in_use(self):
        library = shelf("t {}", "d {}", "c {}", "b {}")
        library.release("t")
        library.define("d", P("{x<t 0>}"))
        keeps(self, library, InUse, ("d",), "remove", "t")
        library.define("c", P("<b 0: put q/r <t 1>>"))
        keeps(self, library, InUse, ("c",), "remove", "t")
        library.define("t", P("{x<t 1>}"))
        keeps(self, library, InUse, ("c",), "remove", "t")
        keeps(self, library, InUse, ("c",), "remove", "b")

    def test_unknown(self):
        library = shelf("t {}")
        for name in OTHERS:
            keeps(self, library, UnknownTemplate, (tuples(name),), "remove", name)


class RenameTemplate(unittest.TestCase):

    def test_rename_template(self):
        library = shelf("t {a{}}", "u {x<t 0: put b <t 0>; put z/z <t 0>>}", "v <u 0>")
        library.release("t")
        library.rename_child("t", ("a",), "c")
        library.define("v", P("{x<u 0>, y<t 1>}"))
        library.define("t", P("{c{}, d<t 1>}"))
        before = trees(library)
        self.assertIsNone(library.rename_template("t", "a"))
        self.assertEqual(library.names(), ["a", "u", "v"])
        self.assertEqual(text(library, "u"), "{x<a 0: put b <a 0>; put z/z <a 0>>}")
        self.assertEqual(text(library, "v"), "{x<u 0>, y<a 1>}")
        self.assertEqual(text(library, "a"), "{c{}, d<a 1>}")
        self.assertEqual(trees(library), {"a": before["t"], "u": before["u"], "v": before["v"]})
        self.assertEqual((library.releases("a"), library.log("a")), (1, [("child", ("a",), "c")]))
        library.change("a", E("put q {}"))
        self.assertEqual(show(library, "u"), "{x{b{c{}, d{a{}}, q{}}, c{}, d{a{}}, q{}}}")
        self.assertIsNone(library.rename_template(name="a", new="t"))

    def test_wrong(self):
        library = shelf("t {}", "u {}")
        for name in OTHERS:
            keeps(self, library, UnknownTemplate, (tuples(name),), "rename_template", name, "T")
            if not is_name(name):
                keeps(self, library, BadName, (tuples(name),), "rename_template", "t", name)
        keeps(self, library, NameInUse, ("u",), "rename_template", "t", "u")
        keeps(self, library, NameInUse, ("t",), "rename_template", "t", "t")


class Refused(unittest.TestCase):

    def test_any_object_in_any_place(self):
        library = shelf("t {x=1, a{}}", "u {k<t 0: set a y 1; put b {}>}")
        library.release("t")
        right = {
            "make": ("v", P("{}")), "define": ("t", P("{}")), "remove": ("u",), "rename_template": ("t", "v"),
            "change": ("t", E("set . x 2")), "reset": ("u", ("k",), ("put", ("b",))),
            "push": ("u", ("k",), ("put", ("b",))), "extract": ("t", ("a",), "v"), "inline": ("u", ("k",)),
            "share": (("t",), "v"), "rename_child": ("t", ("a",), "b"), "rename_prop": ("t", (), "x", "y"),
            "release": ("t",), "upgrade": ("u", ("k",), 0),
        }
        for word, passed in right.items():
            for at in range(len(passed)):
                for value in OTHERS:
                    some = (*passed[:at], value, *passed[at + 1:])
                    before = library.copy()
                    try:
                        getattr(library, word)(*some)
                        self.assertEqual(library.history()[-1], (word, *tuples(some)))
                        library.undo()
                    except VariantError:
                        pass
                    self.assertTrue(library == before)
                    self.assertEqual(library.history(), before.history())

    def test_a_refused_deed_leaves_what_may_be_redone(self):
        library = shelf("t {}", "u {}")
        library.undo()
        keeps(self, library, UnknownTemplate, ("q",), "remove", "q")
        library.redo()
        self.assertEqual(library.names(), ["t", "u"])
