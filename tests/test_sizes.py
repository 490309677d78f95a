"""[7]: large libraries, long chains, many steps, and long texts take little time."""

import unittest

from tests.plain import piece_of
from tests.samples import EMPTY, full_table, full_tree, paths_of, quick, seeded
from tests.shelf import P, agrees, shelf
from variantnest.desk import Desk
from variantnest.errors import BadText, NameInUse
from variantnest.library import Library, differences, replay, without
from variantnest.texts import library_text, piece_text, read_library, read_piece, read_table, read_tree, table_text, tree_text

IDS = [one + other for one in "abcdefghijklmnopqrst" for other in "abcdefghijklmnopqrst"]
MOMENT = 0.05
FRACTION = 0.4


def tower(many=19, nodes=399):
    """A chain of variants, each of which has 40 entries and shows 400 nodes."""
    library = Library()
    rows = tuple((name, ("node", (("x", 0),), ())) for name in IDS[:nodes])
    library.make("base", ("node", (("l", ("link", ("aa",))), ("x", 1)), rows))
    used = "base"
    for at in range(many):
        name = "v" + IDS[at]
        library.make(name, ("use", used, 0, tuple(("set", (some,), "x", at + 1) for some in IDS[at:at + 40])))
        used = name
    return library


def town():
    """Several templates with some dozens of nodes and uses of one another."""
    library = Library()
    tree = full_tree(40)
    library.make("a", piece_of(tree))
    library.make("b", ("node", (), (("p", ("use", "a", 0, ())), ("q", piece_of(full_tree(30))))))
    library.release("a")
    library.make("c", P("<b 0: hide p/a; set p x 5; put q/z {y=1, w<a 1: set a x 2>}>"))
    library.make("d", P("{h<c 0: set q/z/w/a x 3; hide p/b>, i<b 0: drop p x>}"))
    library.make("e", P("<d 0: put k <a 0: set a y 4; hide b>>"))
    return library


class Quick(unittest.TestCase):

    def test_a_town(self):
        library = town()
        agrees(self, library)
        for step in (
            ("make", "f", P("{x=1, a<e 0: set h x 1>}")), ("define", "e", P("<d 0>")), ("remove", "e"),
            ("rename_template", "a", "g"), ("change", "a", ("set", ("a",), "x", 9)), ("change", "e", ("put", ("m",), P("{}"))),
            ("reset", "c", (), ("hide", ("p", "a"))), ("push", "c", (), ("prop", ("p",), "x")),
            ("push", "d", ("h",), ("hide", ("p", "b"))), ("inline", "d", ("h",)),
            ("rename_child", "a", ("a",), "zz"), ("rename_prop", "a", (), "x", "z"), ("release", "d"),
        ):
            other = library.copy()
            quick(self, MOMENT, library.would, step)
            getattr(other, step[0])(*step[1:])
            agrees(self, other)
            quick(self, MOMENT, differences, library, other)
            quick(self, MOMENT, library_text, other)
        for question, passed in (
            (library.shown, ("e",)), (library.sources, ("e", ("h", "q", "z", "w", "a"), "x")), (library.places, ("a",)),
            (library.uses, ("d",)), (library.users, ("a",)), (library.definition, ("e",)), (library.log, ("e",)),
            (library.names, ()), (library.history, ()), (library.copy, ()),
        ):
            quick(self, MOMENT, question, *passed)

    def test_towers(self):
        library = tower()
        top = "v" + IDS[18]
        self.assertEqual(len(paths_of(library.shown(top))), 400)
        for step in (
            ("change", "base", ("set", (IDS[398],), "x", 9)),
            ("rename_child", "base", ("aa",), "zz"), ("rename_prop", "base", (), "x", "y"), ("release", top),
            ("push", top, (), ("prop", (IDS[18],), "x")), ("inline", top, ()), ("rename_template", "base", "other"),
            ("extract", "base", ("aa",), "part"),
        ):
            quick(self, FRACTION, library.would, step)
        for question, passed in (
            (library.sources, (top, ("bb",), "x")), (library.places, ("base",)), (library.users, ("base",)),
            (library_text, (library,)), (differences, (library, tower(3))),
        ):
            quick(self, FRACTION, question, *passed)
        self.assertTrue(quick(self, FRACTION, read_library, library_text(library)) == library)
        self.assertTrue(quick(self, 2 * FRACTION, replay, library.history()) == library)

    def test_uses_with_forty_entries(self):
        rng = seeded(7)
        tree = full_tree(60)
        library = Library()
        library.make("t", piece_of(tree))
        entries = full_table(rng, tree, 40)
        entries = tuple(("put", entry[1], P("<t 0: hide a; hide b; hide c>")) if entry[0] == "put" else entry for entry in entries)
        library.make("u", ("use", "t", 0, entries))
        agrees(self, library)
        quick(self, MOMENT, library.would, ("rename_child", "t", ("a",), "z"))
        quick(self, MOMENT, library.would, ("define", "t", piece_of(full_tree(59))))
        library.release("t")
        library.define("u", ("use", "t", 1, entries))
        for at in range(20):
            library.rename_child("t", ("a",) if at % 2 == 0 else ("z",), "z" if at % 2 == 0 else "a")
        quick(self, FRACTION, library.would, ("upgrade", "u", (), 0))

    def test_many_steps(self):
        library = town()
        for number in range(143):
            if number % 3 == 0:
                library.rename_child("a", ("a",) if number % 2 == 0 else ("z",), "z" if number % 2 == 0 else "a")
            elif number % 3 == 1:
                library.change("a", ("set", (), "x", number))
            else:
                library.change("d", ("set", ("h",), "x", number))
        self.assertGreaterEqual(len(library.history()), 149)
        agrees(self, library)
        self.assertTrue(quick(self, 3 * FRACTION, replay, library.history()) == library)
        self.assertEqual(len(quick(self, 3 * FRACTION, without, library, 147).history()), len(library.history()) - 1)
        quick(self, MOMENT, library.copy)
        while library.history():
            library.undo()
        self.assertTrue(library == Library())

    def test_share(self):
        library = Library()
        for at, name in enumerate("abcdef"):
            library.make(name, piece_of(full_tree(300 + at)))
        self.assertIsNone(quick(self, FRACTION, library.copy().done, ("share", tuple("a"), "n")))
        quick(self, 2 * FRACTION, library.would, ("share", tuple("abcdef"), "n"))

    def test_long_texts(self):
        trees = "{" + ", ".join(f"{name}" + "{x=1}" for name in IDS[:399]) + "}"
        self.assertGreater(len(trees), 3500)
        self.assertEqual(tree_text(quick(self, FRACTION, read_tree, trees)), trees)
        tables = "; ".join(f"set {name} x @{name}" for name in IDS[:280])
        self.assertEqual(table_text(quick(self, FRACTION, read_table, tables)), tables)
        pieces = "{" + ", ".join(f"{name}<t 0: set a x 1>" for name in IDS[:180]) + "}"
        self.assertEqual(piece_text(quick(self, FRACTION, read_piece, pieces)), pieces)
        with self.assertRaises(BadText) as held:
            read_tree(" " * 3999 + "x")
        self.assertEqual(held.exception.at, 3999)
        self.assertEqual(read_tree(" " * 2000 + "{}" + " " * 1998), EMPTY)
        desk = Desk()
        self.assertEqual(quick(self, FRACTION, self.told, f"make u {trees}"), "done")
        desk.tell(f"make u {trees}")
        self.assertRaises(NameInUse, desk.tell, f"make u {trees}")

    def told(self, line):
        return Desk().tell(line)

    def test_more_than_the_limits(self):
        library = shelf("t {a{}}")
        for number in range(25):
            library.make("t" + IDS[number], P("<t 0: set a x %d>" % number))
        for _ in range(60):
            library.release("t")
        for number in range(200):
            library.change("t", ("set", (), "x", number))
        self.assertEqual((len(library.names()), library.releases("t"), len(library.history())), (26, 60, 286))
        agrees(self, library)
        chain = ["t"]
        for number in range(40):
            chain.append("u" + IDS[number])
            library.make(chain[-1], P(f"<{chain[-2]} 0: set . y {number}>"))
        library.rename_child("t", ("a",), "b")
        self.assertEqual(library.log(chain[-1]), [("child", ("a",), "b")])
        self.assertEqual([row[0] for row in library.sources(chain[-1], (), "y")], chain[:0:-1])
        self.assertTrue(replay(library.history()) == library)
        self.assertTrue(read_library(library_text(library)) == library)
        agrees(self, library)
