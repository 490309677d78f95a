"""[43], [44]: templates made of nodes, nodes made of uses, and common bases."""

import itertools
import unittest

from tests.plain import all_uses, piece_of
from tests.samples import JUNK, deep, full_tree, is_name, near_tree, seeded, tuples
from tests.shelf import P, T, agrees, keeps, path, shelf, text, trees
from variantnest.between import between, common, cost
from variantnest.errors import (
    BadName, NameInUse, NoNode, NotPlain, NoUse, Outside, TooLarge, UnknownTemplate,
)
from variantnest.library import Library

OTHERS = (*JUNK, deep(300), deep(300, list))


class Extract(unittest.TestCase):

    def test_a_node_with_all_that_is_in_it(self):
        library = shelf(
            "s {z{}}", "t {x=1, a{b{l=@a/b, m=@a/b/c, c{}, d<s 0: hide z; set . y @a/b/d; put q {w=@a/b}>}}}",
            "u {k<t 0: set a/b x 2; hide a/b/c>}",
        )
        before = trees(library)
        self.assertIsNone(library.extract("t", path("a/b"), "n"))
        self.assertEqual(text(library, "t"), "{x=1, a{b<n 0>}}")
        self.assertEqual(text(library, "n"), "{l=@., m=@c, c{}, d<s 0: hide z; set . y @d; put q {w=@.}>}")
        self.assertEqual({name: library.shown(name) for name in before}, before)
        self.assertEqual((library.releases("n"), library.log("n")), (0, []))
        self.assertIsNone(library.extract(name="t", path=["a"], new="o"))
        self.assertEqual((text(library, "t"), text(library, "o")), ("{x=1, a<o 0>}", "{b<n 0>}"))
        self.assertEqual({name: library.shown(name) for name in before}, before)
        agrees(self, library)
        self.assertEqual(library.history()[-1], ("extract", "t", ("a",), "o"))

    def test_siblings_whose_ids_begin_alike(self):
        library = shelf("t {a{x=1}, ab{l=@a, y=2}, abc{l=@abc}, b{a{z=1}}}")
        before = library.shown("t")
        library.extract("t", ("abc",), "n")
        self.assertEqual((text(library, "t"), text(library, "n")), (
            "{a{x=1}, ab{l=@a, y=2}, abc<n 0>, b{a{z=1}}}", "{l=@.}",
        ))
        keeps(self, library, Outside, (("a",),), "extract", "t", ("ab",), "m")
        library.extract("t", ("a",), "m")
        self.assertEqual(text(library, "t"), "{a<m 0>, ab{l=@a, y=2}, abc<n 0>, b{a{z=1}}}")
        self.assertEqual(library.shown("t"), before)

    def test_links_from_outside_stay(self):
        library = shelf("t {l=@a/b, a{b{}}}")
        library.extract("t", ("a",), "n")
        self.assertEqual(text(library, "t"), "{l=@a/b, a<n 0>}")

    def test_wrong(self):
        library = shelf("s {b{}}", "t {a{b{}}, c<s 0: put d {}>}", "v <t 0>")
        for value in OTHERS:
            keeps(self, library, UnknownTemplate, (tuples(value),), "extract", value, None, None)
            if value not in (("a",), ["a"], ("a", "b")):
                keeps(self, library, NoNode, (tuples(value),), "extract", "t", value, None)
            if not is_name(value):
                keeps(self, library, BadName, (tuples(value),), "extract", "t", ("a",), value)
        for where in (".", "c", "c/b", "c/d", "q", "a/q"):
            keeps(self, library, NoNode, (path(where),), "extract", "t", path(where), "n")
        keeps(self, library, NoNode, ((),), "extract", "v", (), "n")
        keeps(self, library, NoNode, (("a",),), "extract", "v", ("a",), "n")
        keeps(self, library, NameInUse, ("s",), "extract", "t", ("a",), "s")
        keeps(self, library, NameInUse, ("t",), "extract", "t", ("a",), "t")

    def test_the_first_link_that_leads_out(self):
        library = shelf("s {}")
        for words, first in (
            ("{x=@ab}", "ab"), ("{x=@.}", "."), ("{x=@a, y=@q, z=@r}", "q"), ("{y=@q, b{x=@r}}", "q"),
            ("{b{x=@r}, c{x=@q}}", "r"), ("{b<s 0: set . x @a/b; put c {x=@p}; put d {x=@q}>}", "p"),
            ("{b<s 0: set . x @z>, c{x=@y}}", "z"),
        ):
            library.make("t", P("{a%s}" % words))
            keeps(self, library, Outside, (path(first),), "extract", "t", ("a",), "n")
            keeps(self, library, NameInUse, ("s",), "extract", "t", ("a",), "s")
            library.remove("t")


class Inline(unittest.TestCase):

    def test_inline(self):
        library = shelf(
            "s {l=@z, z{}}", "t {x=1, a{b<s 0: set . y @a; put c <s 0: set z q 1>>}}", "u {k<t 0: set a/b/z x 2>}",
        )
        before = trees(library)
        self.assertIsNone(library.inline("t", path("a/b")))
        self.assertEqual(text(library, "t"), "{x=1, a{b{l=@a/b/z, y=@a, c{l=@a/b/c/z, z{q=1}}, z{}}}}")
        self.assertEqual(trees(library), before)
        self.assertIsNone(library.inline(name="u", place=["k"]))
        self.assertEqual(library.definition("u"), piece_of(before["u"]))
        self.assertEqual(trees(library), before)
        agrees(self, library)

    def test_at_the_root_and_of_a_release(self):
        library = shelf("s {l=@z, z{}}")
        library.release("s")
        library.make("t", P("<s 1: set z x 1>"))
        library.make("u", P("{a<t 0>, b<s 1>}"))
        before = trees(library)
        library.inline("t", ())
        library.inline("u", ("b",))
        self.assertEqual((text(library, "t"), text(library, "u")), ("{l=@z, z{x=1}}", "{a<t 0>, b{l=@b/z, z{}}}"))
        self.assertEqual(trees(library), before)

    def test_definitions_may_grow(self):
        library = shelf("u {}", "v {}")
        library.make("t", piece_of(full_tree(390)))
        library.define("u", P("<t 0>"))
        library.define("v", P("{a<t 0: hide a/a/a>}"))
        library.inline("u", ())
        library.inline("v", ("a",))
        self.assertEqual(library.definition("u"), library.definition("t"))
        agrees(self, library)

    def test_wrong(self):
        library = shelf("s {b{}}", "t {a{b{}}, c<s 0: put d <s 0>>}")
        for value in OTHERS:
            keeps(self, library, UnknownTemplate, (tuples(value),), "inline", value, None)
            keeps(self, library, NoUse, (tuples(value),), "inline", "t", value)
        for where in (".", "a", "c/b", "c/d", "q"):
            keeps(self, library, NoUse, (path(where),), "inline", "t", path(where))


class Share(unittest.TestCase):

    def shared(self, library, names, new):
        before = trees(library)
        logs = [(library.releases(name), library.log(name)) for name in library.names()]
        self.assertIsNone(library.share(names, new))
        self.assertEqual({name: library.shown(name) for name in before}, before)
        self.assertEqual([(library.releases(name), library.log(name)) for name in before], logs)
        self.assertEqual(all_uses(library.definition(new)), [])
        total = 0
        for name in set(names):
            word, used, release, entries = library.definition(name)
            self.assertEqual((word, used, release), ("use", new, 0))
            table = between(library.shown(new), before[name])
            self.assertEqual(entries, tuple(
                ("put", entry[1], piece_of(entry[2])) if entry[0] == "put" else entry for entry in table
            ))
            total += cost(table)
        self.assertEqual(total, common([before[name] for name in sorted(set(names))])[1])
        agrees(self, library)
        return total

    def test_one_to_six(self):
        rows = ["a {x=1, l=@p, p{}, q{}}", "b {x=2, l=@p, p{}}", "c {x=1, p{y=1}}", "d {z=1}", "e {}", "f {p{q{}}}"]
        for many in range(1, 7):
            library = shelf(*rows)
            library.release("a")
            self.shared(library, tuple("abcdef"[:many]), "new")
        library = shelf(*rows)
        self.assertEqual(self.shared(library, ("a",), "new"), 0)
        self.assertEqual(text(library, "a"), "<new 0>")
        library = shelf(*rows)
        self.assertEqual(self.shared(library, ["b", "a"], "new"), 2)

    def test_names_that_occur_twice(self):
        rows = ["a {x=1}", "b {x=2}", "c {x=2}"]
        library = shelf(*rows)
        self.assertEqual(self.shared(library, ("a", "a", "a", "b", "c"), "new"), 1)
        self.assertEqual(text(library, "new"), "{x=2}")
        library = shelf(*rows)
        self.assertEqual(self.shared(library, ("a", "a"), "new"), 0)

    def test_many_trees(self):
        rng = seeded(81)
        for _ in range(60):
            library = Library()
            names = "abcd"[:rng.randint(1, 4)]
            for name in names:
                library.make(name, piece_of(near_tree(rng, 2)))
            self.shared(library, tuple(names), "new")

    def test_users_and_history(self):
        library = shelf("a {x=1}", "b {x=1, y{}}", "u {k<a 0: set . x 3>}")
        self.shared(library, ("b", "a"), "new")
        self.assertEqual(library.history()[-1], ("share", ("b", "a"), "new"))
        self.assertEqual(library.users("new"), ["a", "b"])

    def test_names_ahead_of_the_others(self):
        library = shelf("t {}", "u <t 0>")
        for value in OTHERS:
            if not is_name(value):
                keeps(self, library, BadName, (tuples(value),), "share", None, value)
        keeps(self, library, NameInUse, ("u",), "share", None, "u")
        keeps(self, library, NameInUse, ("t",), "share", ("t",), "t")

    def test_no_tuple_of_one_to_six(self):
        library = shelf("t {}", "u {}", "v <t 0>")
        for value in (None, 1, True, "t", "", (), [], ("t",) * 7, ["t"] * 7, ("q",) * 7, tuple("tutututu")):
            keeps(self, library, UnknownTemplate, (tuples(value),), "share", value, "n")
        for value in OTHERS:
            keeps(self, library, UnknownTemplate, (tuples(value),), "share", ("t", value, "v"), "n")

    def test_the_first_that_is_no_plain_template(self):
        library = shelf("t {}", "u {}", "v {a<t 0>}", "w <t 0>")
        for names, error, found in (
            (("q", "v"), UnknownTemplate, "q"), (("v", "q"), NotPlain, "v"), (("t", "w", "v"), NotPlain, "w"),
            (("t", "u", "q"), UnknownTemplate, "q"), (["w"], NotPlain, "w"), (("t", "t", "v"), NotPlain, "v"),
        ):
            keeps(self, library, error, (found,), "share", names, "n")
        library.release("t")
        library.define("t", P("{a<t 1>}"))
        keeps(self, library, NotPlain, ("t",), "share", ("t",), "n")

    def test_a_base_that_would_be_too_large(self):
        library = Library()
        for name in "abc":
            library.make(name, piece_of(((), ((name, full_tree(250)[1][0][1]), (name * 2, full_tree(250)[1][1][1])))))
        self.assertGreater(len(str(common([library.shown(name) for name in "abc"])[0])), 100)
        keeps(self, library, TooLarge, ("n",), "share", tuple("abc"), "n")

    def test_ties_do_not_matter(self):
        for one, other in itertools.product(("{x=1}", "{x=2, a{}}", "{a{b{}}}"), repeat=2):
            library = shelf(f"t {one}", f"u {other}")
            self.shared(library, ("t", "u"), "n")
            self.assertEqual(library.shown("t"), T(one))
