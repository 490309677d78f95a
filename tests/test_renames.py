"""[29] to [32]: children and props renamed in all of the library, releases and logs."""

import unittest

from tests.samples import JUNK, deep, is_name, lists, tuples
from tests.shelf import P, T, agrees, keeps, path, shelf, show, text, trees
from variantnest.errors import BadName, Clash, IdInUse, NoNode, NoProp, PropInUse, UnknownTemplate
from variantnest.library import Library

OTHERS = (*JUNK, deep(300), deep(300, list))


def texts(library):
    return {name: text(library, name) for name in library.names()}


def log(library, name):
    """The log of a template in short: the words of its lines."""
    rows = []
    for word, where, *rest in library.log(name):
        rows.append(" ".join([word, "/".join(where) or ".", *rest]))
    return rows


class Children(unittest.TestCase):

    def test_own_nodes_and_links(self):
        library = shelf("t {l=@a/b, m=@a, n=@b, o=@ab, a{b{c=@a/b/q, a{}}}}")
        self.assertIsNone(library.rename_child("t", ("a",), "z"))
        self.assertEqual(text(library, "t"), "{l=@z/b, m=@z, n=@b, o=@ab, z{b{c=@z/b/q, a{}}}}")
        self.assertIsNone(library.rename_child(name="t", path=["z", "b"], new="y"))
        self.assertEqual(text(library, "t"), "{l=@z/y, m=@z, n=@b, o=@ab, z{y{c=@z/y/q, a{}}}}")
        self.assertEqual(log(library, "t"), ["child a z", "child z/b y"])
        self.assertEqual(library.history()[-1], ("rename_child", "t", ("z", "b"), "y"))
        agrees(self, library)

    def test_order_of_children_and_entries(self):
        library = shelf("t {a{}, m{x=1}, z{}}", "u <t 0: hide a; set a x 1; set m x 2; put m/q {}; put z/q {}>")
        library.rename_child("t", ("a",), "y")
        self.assertEqual(texts(library), {
            "t": "{m{x=1}, y{}, z{}}", "u": "<t 0: hide y; set m x 2; set y x 1; put m/q {}; put z/q {}>",
        })

    def test_entries_and_links_everywhere(self):
        library = shelf(
            "t {a{b{}}, c{}}",
            "u {l=@k/a/b, k<t 0: hide a/b; set a x @k/a; put a/c {m=@k/a/b, n=@a}>, o{p=@k, q=@k/a}}",
            "v {w=@u/k/a, u<u 0: set k/a y 1; drop o q>}",
        )
        before = trees(library)
        library.rename_child("t", ("a",), "z")
        self.assertEqual(texts(library), {
            "t": "{c{}, z{b{}}}",
            "u": "{l=@k/z/b, k<t 0: hide z/b; set z x @k/z; put z/c {m=@k/z/b, n=@a}>, o{p=@k, q=@k/z}}",
            "v": "{w=@u/k/z, u<u 0: set k/z y 1; drop o q>}",
        })
        self.assertEqual(show(library, "v"), "{w=@u/k/z, u{l=@u/k/z/b, k{c{}, z{x=@u/k/z, y=1, c{m=@u/k/z/b, n=@u/a}}},"
                                             " o{p=@u/k}}}")
        self.assertNotEqual(trees(library), before)
        self.assertEqual([log(library, name) for name in "tuv"], [["child a z"], ["child k/a z"], ["child u/k/a z"]])
        agrees(self, library)

    def test_uses_in_pieces_of_put_entries(self):
        library = shelf(
            "t {a{}}", "s {r{}}",
            "u <s 0: put r {no<t 0: set a x @r/no/a>}; put p {yes<t 0: set a x @p/yes/a>}; put p/q {no<t 0>}>",
        )
        library.rename_child("t", ("a",), "z")
        # Entries are carried along wherever the use stands, links only where the path is shown.
        self.assertEqual(text(library, "u"),
                         "<s 0: put p {yes<t 0: set z x @p/yes/z>}; put p/q {no<t 0>};"
                         " put r {no<t 0: set z x @r/no/a>}>")
        self.assertEqual(log(library, "u"), ["child p/yes/a z"])

    def test_uses_of_uses_in_pieces(self):
        library = shelf("t {a{}}", "s {r{}}", "u <s 0: put p <t 0: put b <s 0: put c <t 0>>>>", "v {w<u 0>}")
        library.rename_child("t", ("a",), "z")
        self.assertEqual(log(library, "u"), ["child p/b/c/a z", "child p/a z"])
        self.assertEqual(log(library, "v"), ["child w/p/b/c/a z", "child w/p/a z"])

    def test_put_entries_at_and_above_a_path(self):
        library = shelf(
            "t {a{b{}}}",
            "at {l=@k/a/b, k<t 0: hide a/b; put a/b {x=1}>}",
            "over {l=@k/a/b, m=@k/a, k<t 0: hide a; set a/b x 1; put a {b{}}>}",
            "rest {l=@k/a/b, k<t 0: put a {b{}}>}",
            "deep {l=@k/k/a/b, m=@k/k/a, k<over 0>}",
        )
        library.rename_child("t", path("a/b"), "z")
        self.assertEqual(texts(library), {
            "t": "{a{z{}}}",
            "at": "{l=@k/a/z, k<t 0: hide a/z; put a/z {x=1}>}",
            "over": "{l=@k/a/b, m=@k/a, k<t 0: hide a; set a/z x 1; put a {b{}}>}",
            "rest": "{l=@k/a/z, k<t 0: put a {b{}}>}",
            "deep": "{l=@k/k/a/b, m=@k/k/a, k<over 0>}",
        })
        self.assertEqual([log(library, name) for name in ("at", "over", "rest", "deep")],
                         [["child k/a/b z"], [], ["child k/a/b z"], []])
        library.rename_child("t", ("a",), "y")
        self.assertEqual(texts(library), {
            "t": "{y{z{}}}",
            "at": "{l=@k/y/z, k<t 0: hide y/z; put y/z {x=1}>}",
            "over": "{l=@k/y/b, m=@k/y, k<t 0: hide y; set y/z x 1; put y {b{}}>}",
            "rest": "{l=@k/y/z, k<t 0: put y {b{}}>}",
            "deep": "{l=@k/k/y/b, m=@k/k/y, k<over 0>}",
        })
        agrees(self, library)

    def test_hidden_nodes(self):
        library = shelf("t {a{b{}}}", "u {l=@k/a/b, k<t 0: hide a>}", "v {l=@m/k/a, m<u 0: set k/a/b x 1>}")
        library.rename_child("t", path("a/b"), "z")
        self.assertEqual(texts(library), {
            "t": "{a{z{}}}", "u": "{l=@k/a/z, k<t 0: hide a>}", "v": "{l=@m/k/a, m<u 0: set k/a/z x 1>}",
        })
        self.assertEqual([log(library, name) for name in "uv"], [["child k/a/b z"], ["child m/k/a/b z"]])

    def test_many_places(self):
        library = shelf("t {a{}}", "u {k<t 0>, l<t 0>}", "v {m<u 0>, n<t 0>, o{p<u 0: hide k>}}")
        library.rename_child("t", ("a",), "z")
        self.assertEqual(log(library, "u"), ["child l/a z", "child k/a z"])
        self.assertEqual(log(library, "v"), [
            "child o/p/l/a z", "child o/p/k/a z", "child n/a z", "child m/l/a z", "child m/k/a z",
        ])

    def test_a_path_below_another_one(self):
        library = shelf(
            "t {a{}}", "s {}", "u <t 0: hide a; put a <t 0: hide a; put a <t 0: set a x 1>>>",
            "v {l=@a/a/a, m=@u/a/a/a/a, n=@u/a, u<u 0: set a/a/a y 2; set a z 1>}",
        )
        before = trees(library)["v"]
        library.rename_child("t", ("a",), "b")
        self.assertEqual(texts(library), {
            "t": "{b{}}", "s": "{}", "u": "<t 0: hide b; put b <t 0: hide b; put b <t 0: set b x 1>>>",
            "v": "{l=@a/a/a, m=@u/b/b/b/a, n=@u/b, u<u 0: set b z 1; set b/b/b y 2>}",
        })
        self.assertEqual(before, T("{l=@a/a/a, m=@u/a/a/a/a, n=@u/a, u{a{z=1, a{a{x=1, y=2}}}}}"))
        self.assertEqual(show(library, "v"), "{l=@a/a/a, m=@u/b/b/b/a, n=@u/b, u{b{z=1, b{b{x=1, y=2}}}}}")
        self.assertEqual(log(library, "u"), ["child a/a/a b", "child a/a b", "child a b"])

    def test_releases_are_left_alone(self):
        library = shelf("t {a{}}")
        library.release("t")
        library.make("u", P("{l=@k/a, m=@n/a, k<t 1: set a x 1; put b <t 0>>, n<t 0: set a x 2>}"))
        library.rename_child("t", ("a",), "z")
        self.assertEqual(text(library, "u"), "{l=@k/a, m=@n/z, k<t 1: set a x 1; put b <t 0>>, n<t 0: set z x 2>}")
        self.assertEqual(show(library, "t", 1), "{a{}}")
        self.assertEqual(log(library, "u"), ["child n/a z", "child k/b/a z"])

    def test_longer_paths_than_eight_names_stand_for_nothing(self):
        library = shelf("t {x{a{}}}", "u {b{c{d{e{f{g{h<t 0: hide x>}}}}}}}", "v {b{c{d{e{f{g<t 0: hide x>}}}}}}")
        library.rename_child("t", path("x/a"), "z")
        self.assertEqual(log(library, "u"), [])
        self.assertEqual(log(library, "v"), ["child b/c/d/e/f/g/x/a z"])
        library.rename_child("t", ("x",), "y")
        self.assertEqual(log(library, "u"), ["child b/c/d/e/f/g/h/x y"])
        self.assertEqual(text(library, "u"), "{b{c{d{e{f{g{h<t 0: hide y>}}}}}}}")
        agrees(self, library)

    def test_what_others_made_of_a_link(self):
        library = shelf("t {l=@a, m=@b, a{}, b{}}", "u <t 0: set . l @a; set . m @k>", "v {t<t 0: set . m @a>}")
        library.rename_child("t", ("a",), "z")
        self.assertEqual(show(library, "u"), "{l=@z, m=@k, b{}, z{}}")
        self.assertEqual(show(library, "v"), "{t{l=@t/z, m=@a, b{}, z{}}}")

    def test_wrong(self):
        library = shelf("s {b{}}", "t {a{b{}}, c<s 0: put d {}>, d{}}", "v <t 0>")
        for value in OTHERS:
            keeps(self, library, UnknownTemplate, (tuples(value),), "rename_child", value, None, None)
            if value not in (("a",), ["a"], ("a", "b")):
                keeps(self, library, NoNode, (tuples(value),), "rename_child", "t", value, None)
            if not is_name(value):
                keeps(self, library, BadName, (tuples(value),), "rename_child", "t", ("a",), value)
        for where in (".", "c", "c/b", "c/d", "q"):
            keeps(self, library, NoNode, (path(where),), "rename_child", "t", path(where), "n")
        keeps(self, library, NoNode, ((),), "rename_child", "v", (), "n")
        keeps(self, library, NoNode, (("a",),), "rename_child", "v", ("a",), "n")
        for new in ("a", "c", "d"):
            keeps(self, library, IdInUse, ((new,),), "rename_child", "t", ("a",), new)
        keeps(self, library, IdInUse, (("a", "b"),), "rename_child", "t", ["a", "b"], "b")

    def test_clash(self):
        for entries, found in (
            ("set z x 1", "prop z x"), ("drop z/q x", "prop z/q x"), ("hide z", "hide z"), ("hide z/a", "hide z/a"),
            ("put z {}", "put z"), ("put z/q/r {}", "put z/q/r"), ("set a x 1; set z x 1", "prop z x"),
            ("hide q; put z {}", "put z"), ("put b <t 0: set z x 1>; put z {}", "prop z x"),
            ("put b <t 0: set z x 1>; hide z", "hide z"), ("set z y 1; set z x 1", "prop z x"),
        ):
            library = shelf("t {a{}}", "p {}", "u {k<p 0>, l<t 0: %s>, m<t 0: put z/z {}>}" % entries, "w <t 0: hide z>")
            self.clashes(library, "u", found)

    def clashes(self, library, name, found, where="a"):
        word, below, *rest = found.split(" ")
        keeps(self, library, Clash, (name, (word, path(below), *rest)), "rename_child", "t", path(where), "z")

    def test_clash_in_uses_of_uses_and_entries_that_rest(self):
        library = shelf("t {a{b{}}}", "u {k<t 0>}", "v {l<u 0: set k/a/z x 1>}", "w <u 0: put q/r <u 0: hide k/a/z>>")
        self.clashes(library, "v", "prop k/a/z x", "a/b")
        library.reset("v", ("l",), ("prop", path("k/a/z"), "x"))
        self.clashes(library, "w", "hide k/a/z", "a/b")
        library.reset("w", (), ("put", path("q/r")))
        library.rename_child("t", path("a/b"), "z")
        agrees(self, library)

    def test_what_does_not_clash(self):
        library = shelf("t {a{b{}}, c{}}", "s {}")
        library.release("t")
        library.make("u", P("{k<t 1: hide z>, l<s 0: put z {}>, m<t 0: put c/z {}; set a/z x 1>, z{}}"))
        library.make("o", P("{p<t 0: hide a; put a {}>}"))
        library.make("q", P("<o 0: set p/a/z x 1>"))
        library.rename_child("t", ("a",), "z")
        self.assertEqual(text(library, "u"), "{k<t 1: hide z>, l<s 0: put z {}>, m<t 0: set z/z x 1; put c/z {}>, z{}}")
        library.undo()
        library.define("u", P("{}"))
        # At o what t has below a is not shown, so nothing below stands for it.
        library.rename_child("t", path("a/b"), "z")
        self.assertEqual(text(library, "q"), "<o 0: set p/a/z x 1>")

    def test_clash_with_the_old_ids_ahead_of_the_last(self):
        library = shelf("t {a{}}", "u <t 0: hide a; put a <t 0>>", "v <u 0: set z/z x 1>", "w <u 0: set z/a x 1>")
        self.clashes(library, "v", "prop z/z x")
        library.define("v", P("<u 0: set a/z x 1>"))
        self.clashes(library, "v", "prop a/z x")
        library.define("v", P("{}"))
        self.clashes(library, "w", "prop z/a x")


class Props(unittest.TestCase):

    def test_own_props_and_entries(self):
        library = shelf("t {x=1, w=2, a{x=3}}", "u {k<t 0: set . x 5; set a x 6; drop . w>}", "v <u 0: drop k x>")
        self.assertIsNone(library.rename_prop("t", (), "x", "b"))
        self.assertEqual(texts(library), {
            "t": "{b=1, w=2, a{x=3}}", "u": "{k<t 0: set . b 5; drop . w; set a x 6>}", "v": "<u 0: drop k b>",
        })
        self.assertIsNone(library.rename_prop(name="t", path=["a"], prop="x", new="y"))
        self.assertEqual(texts(library), {
            "t": "{b=1, w=2, a{y=3}}", "u": "{k<t 0: set . b 5; drop . w; set a y 6>}", "v": "<u 0: drop k b>",
        })
        self.assertEqual([log(library, name) for name in "tuv"], [
            ["prop . x b", "prop a x y"], ["prop k x b", "prop k/a x y"], ["prop k x b", "prop k/a x y"],
        ])
        self.assertEqual(library.history()[-1], ("rename_prop", "t", ("a",), "x", "y"))
        agrees(self, library)

    def test_put_entries_at_and_above_a_path(self):
        library = shelf(
            "t {a{x=1}}", "at {k<t 0: hide a; set a x 2; put a {x=3}>}", "top <at 0: set k/a x 4>",
            "rest {k<t 0: set a x 2; put a {x=3}>}", "hid {k<t 0: hide a>}", "hit <hid 0: set k/a x 5>",
        )
        library.rename_prop("t", ("a",), "x", "y")
        self.assertEqual(texts(library), {
            "t": "{a{y=1}}", "at": "{k<t 0: hide a; set a y 2; put a {x=3}>}", "top": "<at 0: set k/a x 4>",
            "rest": "{k<t 0: set a y 2; put a {x=3}>}", "hid": "{k<t 0: hide a>}", "hit": "<hid 0: set k/a y 5>",
        })
        self.assertEqual({name: log(library, name) for name in library.names()}, {
            "t": ["prop a x y"], "at": [], "top": [], "rest": ["prop k/a x y"], "hid": ["prop k/a x y"],
            "hit": ["prop k/a x y"],
        })
        agrees(self, library)

    def test_many_places_in_descending_order(self):
        library = shelf("t {x=1}", "u {a<t 0>, b{c<t 0: set . x 2>}, d<t 0: put e <t 0>>}")
        library.release("t")
        library.rename_prop("t", (), "x", "y")
        self.assertEqual(log(library, "u"), ["prop d/e x y", "prop d x y", "prop b/c x y", "prop a x y"])
        self.assertEqual(show(library, "u"), "{a{y=1}, b{c{y=2}}, d{y=1, e{y=1}}}")
        self.assertEqual(show(library, "t", 1), "{x=1}")

    def test_own_props_below_stay(self):
        library = shelf("t {x=1, a{x=1}}", "u {k<t 0: put b {x=1}>, x{x=1}}")
        library.rename_prop("t", (), "x", "y")
        self.assertEqual(show(library, "u"), "{k{y=1, a{x=1}, b{x=1}}, x{x=1}}")

    def test_longer_paths_than_eight_names(self):
        library = shelf("t {a{b{x=1}}}", "u {b{c{d{e{f{g{h<t 0: hide a>}}}}}}}")
        library.rename_prop("t", path("a/b"), "x", "y")
        self.assertEqual(log(library, "u"), [])

    def test_wrong(self):
        library = shelf("s {x=1}", "t {x=1, z=2, a{}, c<s 0>}", "v <t 0>")
        for value in OTHERS:
            keeps(self, library, UnknownTemplate, (tuples(value),), "rename_prop", value, None, None, None)
            if value not in (("a",), ["a"], (), []):
                keeps(self, library, NoNode, (tuples(value),), "rename_prop", "t", value, None, None)
            keeps(self, library, NoProp, (tuples(value),), "rename_prop", "t", (), value, None)
            if not is_name(value):
                keeps(self, library, BadName, (tuples(value),), "rename_prop", "t", (), "x", value)
        keeps(self, library, NoNode, ((),), "rename_prop", "v", (), "x", "y")
        keeps(self, library, NoNode, (("c",),), "rename_prop", "t", ("c",), "x", "y")
        keeps(self, library, NoProp, ("x",), "rename_prop", "t", ("a",), "x", None)
        keeps(self, library, PropInUse, ("z",), "rename_prop", "t", (), "x", "z")
        keeps(self, library, PropInUse, ("x",), "rename_prop", "t", (), "x", "x")

    def test_clash(self):
        library = shelf(
            "t {a{x=1}, b{}}", "w {}", "v {k<t 0: set b y 1; set a x 1; put c <t 0: drop a y>>, l<t 0: set a y 1>}",
            "u <v 0: set k/a y 3>",
        )
        for name, key in (
            ("u", ("prop", path("k/a"), "y")), ("v", ("prop", ("a",), "y")),
        ):
            keeps(self, library, Clash, (name, key), "rename_prop", "t", ("a",), "x", "y")
            library.define(name, P("{k<t 0: set b y 1>}"))
        library.rename_prop("t", ("a",), "x", "y")
        library = shelf("t {a{x=1}}", "u {k<t 0: hide a; put a {}>}", "v <u 0: set k/a y 1>")
        library.rename_prop("t", ("a",), "x", "y")
        self.assertEqual(text(library, "v"), "<u 0: set k/a y 1>")

    def test_the_first_clash_as_it_is_written(self):
        library = shelf("t {x=1}", "p {}", "u {a<p 0: put b <t 0: set . y 1>>, c<t 0: drop . y>}")
        keeps(self, library, Clash, ("u", ("prop", (), "y")), "rename_prop", "t", (), "x", "y")
        library = shelf("t {x=1, a{x=1}}", "p {}", "u <t 0: set a y 1; put b <t 0: set . y 1>; put c <t 0: drop . y>>")
        keeps(self, library, Clash, ("u", ("prop", (), "y")), "rename_prop", "t", (), "x", "y")
        keeps(self, library, Clash, ("u", ("prop", ("a",), "y")), "rename_prop", "t", ("a",), "x", "y")


class Releases(unittest.TestCase):

    def test_numbers(self):
        library = shelf("t {x=1}", "u <t 0>")
        self.assertEqual([library.release("t"), library.release(name="t"), library.release("u")], [1, 2, 1])
        self.assertEqual((library.releases("t"), library.releases("u")), (2, 1))
        self.assertIs(type(library.release("t")), int)
        library.undo()
        self.assertEqual(library.releases("t"), 2)
        self.assertEqual(library.release("t"), 3)

    def test_unknown(self):
        library = shelf("t {x=1}")
        for value in OTHERS:
            keeps(self, library, UnknownTemplate, (tuples(value),), "release", value)
            self.assertRaises(UnknownTemplate, library.log, value)

    def test_logs_keep_order_and_stay_through_other_deeds(self):
        library = shelf("t {x=1, a{}}", "u {k<t 0>}")
        library.rename_child("t", ("a",), "b")
        library.rename_prop("t", (), "x", "y")
        library.define("t", P("{y=2, b{}, c{}}"))
        library.rename_child("t", ("b",), "a")
        self.assertEqual(library.log("t"), [("child", ("a",), "b"), ("prop", (), "x", "y"), ("child", ("b",), "a")])
        self.assertEqual(library.log(name="u"), [
            ("child", ("k", "a"), "b"), ("prop", ("k",), "x", "y"), ("child", ("k", "b"), "a"),
        ])
        library.rename_template("t", "s")
        self.assertEqual(len(library.log("s")), 3)
        self.assertEqual(Library().names(), [])

    def test_lists_in_steps(self):
        library = shelf("t {a{x=1}}")
        library.rename_prop("t", lists(("a",)), "x", "y")
        self.assertEqual(library.history()[-1], ("rename_prop", "t", ("a",), "x", "y"))
