"""[4], [19]: pieces."""

import unittest

from tests import refusals
from tests.samples import EIGHT, EMPTY, HUGE, JUNK, NINE, chain, deep, lists, seeded, spoiled
from tests.plain import piece_of
from tests.shelf import P
from tests.stories import some_piece
from variantnest.library import Library
from variantnest.pieces import is_piece

NODE = ("node", (), ())
FULL = P("{x=1, y=@a/b, a{z=off}, b<t 2: hide a; drop . x; set a/b y @.; put a <u 0: put c {x=1}>>}")


def put(path, piece):
    return ("use", "t", 0, (("put", path, piece),))


class Pieces(unittest.TestCase):

    def right(self, *values):
        for value in values:
            self.assertIs(is_piece(value), True, value)
            self.assertIs(is_piece(value=value), True)

    def wrong(self, *values):
        for value in values:
            self.assertIs(is_piece(value), False, value)

    def test_pieces(self):
        self.right(
            NODE, FULL, ("use", "t", 0, ()), ("use", "abcdefgh", HUGE, ()), ("node", (("x", HUGE),), (("a", NODE),)),
            ("use", "t", 0, (("hide", ("a",)), ("drop", (), "x"), ("set", ("a",), "x", 1), ("put", ("a",), NODE))),
            put(("a",), put(("b",), NODE)), ("node", (), (("use", ("use", "node", 1, ())),)),
        )

    def test_junk(self):
        for value in JUNK:
            self.wrong(value, ("node", value), (value,), ("use", value), ("set", value))
            if value != () and not isinstance(value, list):
                self.wrong(("node", (), value))
        self.wrong(
            deep(900), ("node", (), (("a", deep(900)),)), ("use", "t", 0, deep(900)), put(("a",), deep(900)),
            ("use", "t", 0, (("set", (), "x", deep(900)),)), deep(900, list),
        )

    def test_lists_are_no_tuples(self):
        self.wrong(lists(FULL), list(FULL), ("node", [], ()), ("node", (), []), ("use", "t", 0, []))
        self.wrong(("node", (["x", 1],), ()), ("node", (), (["a", NODE],)), ("use", "t", 0, (["hide", ("a",)],)))
        self.wrong(("use", "t", 0, (("hide", ["a"]),)), ("node", (("x", ["link", ()]),), ()))

    def test_nodes(self):
        self.wrong(
            ("node", ()), ("node", (), (), ()), ("node", (("x", True),), ()), ("node", (("x", None),), ()),
            ("node", (("y", 1), ("x", 1)), ()), ("node", (("x", 1), ("x", 1)), ()), ("node", (("X", 1),), ()),
            ("node", (), (("b", NODE), ("a", NODE))), ("node", (), (("a", NODE), ("a", NODE))),
            ("node", (), (("A", NODE),)), ("node", (), (("a", EMPTY),)), ("node", (), (("a",),)), EMPTY,
            ("node", (("x", ("link", NINE)),), ()), ("nodes", (), ()), ("use", (), ()),
        )
        self.right(("node", (("x", ("link", EIGHT)),), ()))

    def test_uses(self):
        self.wrong(
            ("use", "t", 0), ("use", "t", 0, (), ()), ("use", "T", 0, ()), ("use", "", 0, ()),
            ("use", "abcdefghi", 0, ()), ("use", "t", -1, ()), ("use", "t", True, ()), ("use", "t", False, ()),
            ("use", "t", "1", ()), ("use", "t", None, ()), ("use", "t", 0, None), ("use", "t", 0, ""),
            ("use", "t", 0, ("hide", ("a",))), ("node", "t", 0, ()),
        )

    def test_entries(self):
        hide, drop, first = ("hide", ("a",)), ("drop", (), "x"), ("set", (), "x", 1)
        self.right(("use", "t", 0, (hide, drop)), ("use", "t", 0, (first,)))
        self.wrong(
            ("use", "t", 0, (drop, hide)), ("use", "t", 0, (drop, first)), ("use", "t", 0, (hide, hide)),
            ("use", "t", 0, (("hide", ()),)), put((), NODE), put(("a",), EMPTY), put(("a",), None), put("a", NODE),
            ("use", "t", 0, (("put", ("a",)),)), ("use", "t", 0, (("put", ("a",), NODE, NODE),)),
            ("use", "t", 0, (("set", (), "x", True),)), ("use", "t", 0, (("drop", (), "X"),)),
            ("use", "t", 0, (("puts", ("a",), NODE),)),
        )

    def test_paths_count_from_the_root(self):
        for many in range(9):
            below = NINE[:many]
            use = ("use", "t", 0, ())
            self.right(self.at(below, use), self.at(below, NODE))
            for long in range(9):
                path = ("z",) * long
                fits = many + long <= 8
                for entry in (("drop", path, "x"), ("set", path, "x", ("link", EIGHT))):
                    self.assertIs(is_piece(self.at(below, ("use", "t", 0, (entry,)))), fits)
                if long:
                    for entry in (("hide", path), ("put", path, NODE), ("put", path, use)):
                        self.assertIs(is_piece(self.at(below, ("use", "t", 3, (entry,)))), fits)
                    inner = put(("y",), put(path, NODE))
                    self.assertIs(is_piece(self.at(below, inner)), many + long + 1 <= 8)
                    inner = put(path, ("node", (), (("y", NODE),)))
                    self.assertIs(is_piece(self.at(below, inner)), many + long + 1 <= 8)
        self.wrong(piece_of(chain(NINE)), self.at(NINE, ("use", "t", 0, ())))

    def at(self, path, piece):
        for name in reversed(path):
            piece = ("node", (), ((name, piece),))
        return piece

    def test_pieces_with_a_flaw(self):
        rng = seeded(71)
        library = Library()
        library.make("t", P("{x=1, a{y=2, b{}}, b{}}"))
        library.release("t")
        seen = []
        for _ in range(3000):
            piece = some_piece(rng, library)
            self.assertIs(is_piece(piece), refusals.is_piece(piece))
            piece = spoiled(rng, piece)
            seen.append(refusals.is_piece(piece))
            self.assertIs(is_piece(piece), seen[-1], piece)
        self.assertEqual(set(seen), {True, False})
