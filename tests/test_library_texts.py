"""[40]: texts of libraries."""

import unittest

from tests.shelf import P, shelf, trees
from variantnest.errors import BadLine, Ring, TooLarge, UnknownRelease, UnknownTemplate, VariantError
from variantnest.library import Library
from variantnest.texts import library_text, read_library

TEXT = """template lamp {on=1, to=@tube, tube{w=40}}
release lamp 0 {on=1, bulb{watts=40}}
release lamp 1 {on=1, tube{watts=40}}
release lamp 1 {on=2, tube{watts=40}}
child lamp bulb tube
prop lamp tube watts w
template room {l<lamp 0: set . on 5>, m<lamp 2: put a {}>}
child room l/bulb tube
prop room l/tube watts w"""


def rows():
    return TEXT.split("\n")


class Writing(unittest.TestCase):

    def test_a_library(self):
        library = shelf("lamp {on=1, bulb{watts=40}}", "room {l<lamp 0: set . on 5>}")
        library.release("lamp")
        library.rename_child("lamp", ("bulb",), "tube")
        library.release("lamp")
        library.change("lamp", ("set", (), "on", 2))
        library.release("lamp")
        library.change("lamp", ("set", (), "on", 1))
        library.rename_prop("lamp", ("tube",), "watts", "w")
        library.change("lamp", ("set", (), "to", ("link", ("tube",))))
        library.change("room", ("put", ("m",), P("<lamp 2: put a {}>")))
        self.assertEqual(library_text(library), TEXT)
        self.assertEqual(library_text(library=library), TEXT)
        other = read_library(text=TEXT)
        self.assertTrue(other == library)
        self.assertEqual(trees(other), trees(library))
        self.assertEqual(other.history(), [])
        for step in (("upgrade", "room", ("m",), 0), ("push", "room", ("l",), ("prop", (), "on"))):
            self.assertEqual(getattr(other, step[0])(*step[1:]), getattr(library, step[0])(*step[1:]))
            self.assertTrue(other == library)

    def test_no_templates(self):
        self.assertEqual(library_text(Library()), "")
        self.assertTrue(read_library("") == Library())
        self.assertEqual(read_library("").names(), [])

    def test_props_at_the_root(self):
        library = shelf("t {x=-1}")
        library.rename_prop("t", (), "x", "y")
        self.assertEqual(library_text(library), "template t {y=-1}\nprop t . x y")
        self.assertTrue(read_library(library_text(library)) == library)


class Reading(unittest.TestCase):

    def wrong(self, index, text):
        for _ in range(2):
            with self.assertRaises(VariantError) as held:
                read_library(text)
            self.assertIs(type(held.exception), BadLine, text)
            self.assertEqual(vars(held.exception), {"index": index}, text)

    def test_templates_in_any_order(self):
        text = "\n".join(rows()[6:] + rows()[:6])
        self.assertTrue(read_library(text) == read_library(TEXT))
        self.assertEqual(library_text(read_library(text)), TEXT)

    def test_spaces_in_pieces_and_trees(self):
        library = read_library("template t    {  b { } ,a<u 0 :hide  x> }  \nrelease t 0   { x = 1 }\ntemplate u {}  ")
        self.assertEqual(library_text(library), "template t {a<u 0: hide x>, b{}}\nrelease t 0 {x=1}\ntemplate u {}")

    def test_lines_of_no_such_form(self):
        for line in (
            "", " ", "template", "template ", "template t", "template t ", "template  t {}", " template t {}", "Template t {}",
            "template T {}", "template t{}", "template t {", "template t {x=1, x=1}", "template abcdefghi {}", "templates t {}",
            "release", "release a", "release a 0", "release a 0 ", "release a 00 {}", "release a -1 {}", "release a -0 {}",
            "release a  {}", "release a 0 <a 0>", "release a 0 {", "release a x {}", "release A 0 {}", "release a 0{}",
            "child a b", "child a . c", "child a b c d", "child a b C", "child a b  c", "child a b c ", "child a /b c",
            "child a b/ c", "child a b//c d", "child a B c", "child a a/b/c/d/e/f/g/h/i z", "child  a b c", "child a @b c",
            "prop a b x", "prop a . x", "prop a . x y z", "prop a . X y", "prop a . x Y", "prop a  x y", "prop a .  x y",
            "prop a a/b/c/d/e/f/g/h/i x y", "make a {}", "set a . x 1", "child\ta b c", "child", "prop", "prop a",
            "chil a b c", "foo a b c", "childs a b c", "Child a b c", "props a b c d", "put a b c", "x a b c d",
        ):
            self.wrong(1, "template a {}\n" + line)
            if line:
                self.wrong(0, line)

    def test_a_line_feed_at_the_end(self):
        self.wrong(0, "\n")
        self.wrong(1, "template t {}\n")
        self.wrong(1, "template t {}\n\ntemplate u {}")

    def test_lines_of_other_templates(self):
        self.wrong(0, "release t 0 {}\ntemplate t {}")
        self.wrong(0, "child t a b")
        self.wrong(1, "template t {}\nrelease u 0 {}\ntemplate u {}")
        self.wrong(2, "template t {}\ntemplate u {}\nchild t a b")
        self.wrong(3, "template t {}\nchild t a b\ntemplate u {}\nprop t . a b")

    def test_order_within_a_template(self):
        self.wrong(2, "template t {}\nchild t a b\nrelease t 0 {}")
        self.wrong(2, "template t {}\nprop t a b c\nrelease t 1 {}")
        read_library("template t {}\nprop t a b c\nchild t a b\nprop t . b c\nchild t a b")

    def test_a_template_twice(self):
        self.wrong(1, "template t {}\ntemplate t {}")
        self.wrong(3, "template t {}\ntemplate u {}\nrelease u 0 {}\ntemplate t {x=1}")

    def test_the_first_wrong_line(self):
        self.wrong(1, "template t {}\ntemplate t {}\nx")
        self.wrong(1, "template t {}\nx\ntemplate t {}")
        self.wrong(2, "template t {}\nrelease t 5 {}\nrelease t -1 {}")
        self.wrong(2, "template t <q 0>\nrelease t 5 {}\nrelease u 0 {}")

    def test_positions(self):
        for index, text in (
            (1, "template t {}\nrelease t 1 {}"), (2, "template t {}\nrelease t 1 {}\nrelease t 0 {}\nchild t a b"),
            (2, "template t {}\nrelease t 0 {}\nrelease t 2 {}\nchild t a b"),
            (3, "template t {}\ntemplate u {}\nrelease u 0 {}\nrelease u 1 {}"),
            (1, "template t {}\nrelease t 3 {}\nrelease t 0 {}\nchild t a b"),
            (2, "template u {}\ntemplate t {}\nrelease t 1 {}\ntemplate v <q 0>"),
        ):
            self.wrong(index, text)
        library = read_library("template t {}\nrelease t 0 {}\nrelease t 1 {}\nrelease t 1 {}\nrelease t 2 {}\nchild t a b"
                               "\nprop t . b c")
        self.assertEqual(library.releases("t"), 4)

    def refused(self, error, fields, text):
        with self.assertRaises(VariantError) as held:
            read_library(text)
        self.assertIs(type(held.exception), error)
        self.assertEqual(tuple(vars(held.exception).values()), fields)

    def test_uses(self):
        self.refused(UnknownTemplate, ("q",), "template t {a<q 0>, b<p 0>}")
        self.refused(UnknownRelease, ("u", 1), "template t {a<u 1>}\ntemplate u {b<q 0>}")
        self.refused(UnknownTemplate, ("q",), "template u {b<q 0>}\ntemplate t {a<u 1>}")
        self.refused(UnknownRelease, ("u", 2), "template t <u 0: put a <u 1>; put b <u 2>>\ntemplate u {}\nrelease u 0 {}")
        self.refused(UnknownTemplate, ("q",), "template t {a<t 0>}\ntemplate u {b<q 0>}")

    def test_rings_ahead_of_sizes(self):
        wide = ", ".join(f"{one}{other}" + "{}" for one in "abcdefghijklmnopqrst" for other in "abcdefghijklmnopqrst")
        big = "template b {" + wide + "}"
        self.refused(Ring, (("t",),), big + "\ntemplate t {a<t 0>}")
        self.refused(TooLarge, ("b",), big + "\ntemplate t {a<t 1>}\nrelease t 0 {}")
        self.refused(TooLarge, ("a",), big + "\ntemplate a <b 0>\ntemplate c <b 0>")
        self.refused(TooLarge, ("b",), big + "\ntemplate a <b 0: hide ab; hide ac>")
        with self.assertRaises(Ring) as held:
            read_library("template t {a<u 0>}\ntemplate u <v 0>\ntemplate v {b<u 0>}")
        self.assertIn(held.exception.circle, [("u", "v"), ("v", "u")])

    def test_a_release_of_its_own(self):
        library = read_library("template t {a<t 1>}\nrelease t 0 {b{}}")
        self.assertEqual(library.shown("t"), ((), (("a", ((), (("b", ((), ())),))),)))
