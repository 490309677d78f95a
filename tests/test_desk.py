"""[41]: the desk."""

import unittest

from tests.samples import seeded
from tests.shelf import trees
from tests.stories import KEEPING, some_step
from variantnest.desk import Desk
from variantnest.errors import (
    BadEntry, BadLine, Clash, Frozen, IdInUse, NameInUse, NoKey, NoNode, NoProp, NothingToRedo, NothingToUndo, NoUse,
    Older, Outside, PropInUse, Rests, Ring, UnknownRelease, UnknownTemplate, VariantError,
)
from variantnest.library import Library
from variantnest.texts import path_text, piece_text, value_text

LINES = (
    ("names", "-"), ("steps", "0"), ("make lamp {on=1, bulb{watts=40}}", "done"), ("show lamp", "{on=1, bulb{watts=40}}"),
    ("make room {l<lamp 0: set . on 2; put cord {to=@l}>}", "done"), ("names", "lamp,room"), ("uses lamp", "-"),
    ("uses room", "l"), ("text room", "{l<lamp 0: set . on 2; put cord {to=@l}>}"),
    ("show room", "{l{on=2, bulb{watts=40}, cord{to=@l}}}"), ("why room l on", "room set, lamp own"), ("why room . on", "-"),
    ("why room l/bulb watts", "lamp own"), ("set room l/bulb watts -5", "done"), ("set room . a @l/bulb", "done"),
    ("set room . b on", "done"), ("set room . c @.", "done"), ("drop room . c", "done"), ("hide room l/bulb", "done"),
    ("put room l/bulb {x=1}", "done"), ("text room", "{a=@l/bulb, b=on, l<lamp 0: hide bulb; set . on 2;"
     " set bulb watts -5; put bulb {x=1}; put cord {to=@l}>}"),
    ("push room l put bulb", "lamp"), ("reset room l prop . on", "done"), ("push room l put cord", "lamp"),
    ("text room", "{a=@l/bulb, b=on, l<lamp 0>}"), ("text lamp", "{on=1, bulb{x=1}, cord{to=@.}}"),
    ("release lamp", "1"), ("release lamp", "2"), ("show lamp 1", "{on=1, bulb{x=1}, cord{to=@.}}"),
    ("show lamp 0", "{on=1, bulb{x=1}, cord{to=@.}}"), ("put room m <lamp 1: set . on 3; set bulb x 4; drop bulb y>", "done"),
    ("why room m/bulb x", "room set, lamp release"), ("child lamp bulb tube", "done"), ("prop lamp tube x y", "done"),
    ("set lamp . on 7", "done"), ("set lamp tube y 8", "done"), ("uses room", "l,m"),
    ("text room", "{a=@l/tube, b=on, l<lamp 0>, m<lamp 1: set . on 3; set bulb x 4; drop bulb y>}"),
    ("reset room m prop bulb y", "done"), ("upgrade room m 0", "prop . on; prop tube y"), ("upgrade room m 0", "-"),
    ("text room", "{a=@l/tube, b=on, l<lamp 0>, m<lamp 0: set . on 3; set tube y 4>}"), ("undo", "done"), ("redo", "done"),
    ("extract lamp tube glass", "done"), ("inline room l", "done"), ("rename lamp light", "done"),
    ("define glass {y=9}", "done"), ("push room m prop tube y", "light"), ("show light", "{on=7, cord{to=@.}, tube{y=4}}"),
    ("make base <glass 0>", "done"), ("remove base", "done"), ("names", "glass,light,room"), ("steps", "29"),
    ("set glass . z 1", "done"), ("put room m/k <glass 0: hide q>", "done"), ("hide room m/cord", "done"),
    ("push room m hide cord", "light"), ("push room m put k", "light"), ("text light",
     "{on=7, k<glass 0: hide q>, tube<glass 0: set . y 4>}"), ("set room m z 1", "done"), ("push room m prop . z", "light"),
    ("define room {m<glass 0: set . y 9>}", "done"), ("push room m prop . y", "-"),
)
# Lines of no form.
BAD = (
    "", " ", "x", "NAMES", "names ", " names", "names x", "steps 1", "undo 1", "redo ", "make", "make t", "make t ", "make T {}",
    "make  t {}", "make t{}", "make t {", "make t {}}", "make t {x=1, x=1}", "make abcdefghi {}", " make t {}", "define t", "define T {}",
    "define t <t>", "remove", "remove t u", "remove T", "remove ", "rename t", "rename t U", "rename t u v", "set t . x",
    "set t . x 1 ", "set t . x 01", "set t . x -0", "set t . x --1", "set t . x -", "set t . x @", "set t . x @/a", "set t . x @a/",
    "set t . x A", "set t . X 1", "set t / x 1", "set t  x 1", "set t . x 1 2", "set t . x abcdefghi", "set t . x @a//b",
    "set t a/b/c/d/e/f/g/h/i x 1", "set t . x @a/b/c/d/e/f/g/h/i", "set t . x {}", "set . . x 1", "drop t .", "drop t . x y", "drop t . 1",
    "hide t", "hide t ", "hide t a b", "hide t A", "hide t a.b", "put t a", "put t a ", "put t A {}", "put t  {}", "put t a {x}",
    "put t a<u 0>", "reset t a", "reset t a put", "reset t a hide b c", "reset t a set . x", "reset t a prop .", "reset t a prop . x y",
    "reset t a prop  x", "reset t a  hide b", "reset t a hide b ", "reset t a put {} b", "reset t A put b", "push t a", "push t . .",
    "push t a prop b X", "extract t a", "extract t a B", "extract t a b c", "inline t", "inline t a b", "inline t a/", "child t a",
    "child t a b c", "child t a B", "prop t a x", "prop t a x y z", "prop t a x Y", "prop t a X y", "release", "release t 1",
    "upgrade t a", "upgrade t a -1", "upgrade t a 01", "upgrade t a x", "upgrade t a 1 2", "upgrade t a ", "show", "show ", "show t ",
    "show t -1", "show t 00", "show t 1 2", "show t x", "text", "text t u", "uses", "uses .", "why t .", "why t . x y", "why t . 1",
    "make t {}\n", "\nnames", "names\n", "history", "share t u", "copy", "tell names", "log t", "places t", "set t . x 1\n",
)


class Told(unittest.TestCase):

    def test_each_line(self):
        desk = Desk()
        for line, answer in LINES:
            self.assertEqual(desk.tell(line), answer, line)
        words = {line.split(" ")[0] for line, _ in LINES}
        self.assertEqual(words, set(
            "make define remove rename set drop hide put reset extract inline child prop undo redo push release upgrade"
            " show text uses why names steps".split()
        ))

    def test_by_keyword(self):
        desk = Desk()
        self.assertEqual(desk.tell(line="make t {}"), "done")
        self.assertEqual(desk.library().history(), [("make", "t", ("node", (), ()))])

    def test_spaces_at_pieces(self):
        desk = Desk()
        desk.tell("make t   { x = 1 ,a { } }  ")
        desk.tell("put t b   { c { } } ")
        desk.tell("define t  {x=1,a{},b{c{}}}")
        self.assertEqual(desk.tell("text t"), "{x=1, a{}, b{c{}}}")

    def test_lines_of_no_form(self):
        desk = Desk()
        desk.tell("make t {a{}}")
        before = desk.library()
        for line in BAD:
            for _ in range(2):
                with self.assertRaises(VariantError) as held:
                    desk.tell(line)
                self.assertIs(type(held.exception), BadLine, line)
                self.assertEqual(vars(held.exception), {"index": 0})
        self.assertTrue(desk.library() == before)
        self.assertEqual(desk.tell("steps"), "1")

    def test_what_the_methods_refuse(self):
        desk = Desk()
        for line in ("make t {x=1, y=2, a{b{}}}", "make u {k<t 0: hide q; put b {l=@q}; set . x 2>}", "release t"):
            desk.tell(line)
        desk.tell("make v {m<t 1>}")
        before = desk.library()
        for line, error, fields in (
            ("make t {}", NameInUse, ("t",)), ("make w <q 0>", UnknownTemplate, ("q",)), ("define q {}", UnknownTemplate, ("q",)),
            ("define t <t 0>", Ring, (("t",),)), ("remove q", UnknownTemplate, ("q",)), ("rename t t", NameInUse, ("t",)),
            ("hide t .", BadEntry, (0,)), ("put t . {}", BadEntry, (0,)), ("hide q .", UnknownTemplate, ("q",)),
            ("put t a/b {c{d{e{f{g{h{i{}}}}}}}}", BadEntry, (0,)), ("set t q x 1", NoNode, (("q",),)), ("put t a {}", IdInUse, (("a",),)),
            ("reset u k hide .", NoKey, (("hide", ()),)), ("reset u . hide a", NoUse, ((),)), ("push u k put z", NoKey, (("put", ("z",)),)),
            ("push u k hide q", Rests, (("hide", ("q",)),)), ("push u k put b", Outside, (("q",),)), ("push v m hide q", NoKey, (("hide", ("q",)),)),
            ("extract t . w", NoNode, ((),)), ("inline t a", NoUse, (("a",),)), ("child t . w", NoNode, ((),)),
            ("child t a a", IdInUse, (("a",),)), ("child t a q", Clash, ("u", ("hide", ("q",)))), ("prop t . z w", NoProp, ("z",)),
            ("prop t . x y", PropInUse, ("y",)), ("release q", UnknownTemplate, ("q",)), ("upgrade u k 1", Older, (1,)),
            ("upgrade u k 7", UnknownRelease, ("t", 7)), ("show t 2", UnknownRelease, ("t", 2)), ("show q", UnknownTemplate, ("q",)),
            ("text q", UnknownTemplate, ("q",)), ("uses q", UnknownTemplate, ("q",)), ("why t q x", NoNode, (("q",),)), ("redo", NothingToRedo, ()),
        ):
            with self.assertRaises(VariantError) as held:
                desk.tell(line)
            self.assertIs(type(held.exception), error, line)
            self.assertEqual(tuple(vars(held.exception).values()), fields, line)
        self.assertTrue(desk.library() == before)
        self.assertEqual(desk.library().history(), before.history())
        desk.tell("set v m x 3")
        self.assertRaises(Frozen, desk.tell, "push v m prop . x")
        self.assertRaises(NothingToUndo, Desk().tell, "undo")

    def test_the_library_is_a_copy_with_its_history(self):
        desk = Desk()
        self.assertTrue(desk.library() == Library())
        desk.tell("make t {}")
        desk.tell("make u {}")
        desk.tell("undo")
        library = desk.library()
        library.redo()
        self.assertEqual(library.names(), ["t", "u"])
        library.remove("t")
        self.assertEqual(desk.tell("names"), "t")
        self.assertEqual(desk.library().history(), [("make", "t", ("node", (), ()))])

    def test_more_numbers(self):
        desk = Desk()
        desk.tell("make t {}")
        for number in range(1, 13):
            self.assertEqual(desk.tell("release t"), str(number))
        self.assertEqual(desk.tell("show t 12"), "{}")
        self.assertEqual(desk.tell("steps"), "13")


def line_of(step):
    """The line that tells a desk a step, or None for share."""
    word, *rest = step
    if word == "change":
        name, entry = rest
        parts = [entry[0], name, path_text(entry[1])]
        if entry[0] == "put":
            parts.append(piece_text(entry[2]))
        elif entry[0] == "set":
            parts.extend([entry[2], value_text(entry[3])])
        else:
            parts.extend(entry[2:])
        return " ".join(parts)
    if word in ("make", "define"):
        return f"{word} {rest[0]} {piece_text(rest[1])}"
    if word in ("reset", "push"):
        name, place, key = rest
        return " ".join([word, name, path_text(place), key[0], path_text(key[1]), *key[2:]])
    words = {"rename_template": "rename", "rename_child": "child", "rename_prop": "prop"}
    parts = [path_text(part) if isinstance(part, tuple) else str(part) for part in rest]
    return " ".join([words.get(word, word), *parts])


class Stories(unittest.TestCase):

    def test_a_desk_that_is_told_all_steps(self):
        for number in range(25):
            rng = seeded(number)
            library, desk = Library(), Desk()
            for _ in range(40):
                step = some_step(rng, library, KEEPING)
                try:
                    result = getattr(library, step[0])(*step[1:])
                except VariantError:
                    continue
                answer = desk.tell(line_of(library.history()[-1]))
                self.assertTrue(desk.library() == library)
                if step[0] == "release":
                    self.assertEqual(answer, str(result))
                elif step[0] == "push":
                    self.assertEqual(answer, ",".join(row[0] for row in result) or "-")
                elif step[0] != "upgrade":
                    self.assertEqual(answer, "done")
            self.assertEqual(desk.library().history(), library.history())
            self.assertEqual(trees(desk.library()), trees(library))
            self.assertEqual(desk.tell("steps"), str(len(library.history())))
