"""[38], [39]: texts of trees, tables and pieces."""

import unittest

from tests import refusals, samples
from tests.grammar import first_wrong
from tests.samples import (
    EIGHT, EMPTY, HUGE, JUNK, chain, deep, lists, near_table, near_tree, refused, seeded, some_table, some_tree,
    tuples,
)
from tests.stories import some_piece
from variantnest.errors import BadEntry, BadPiece, BadText, BadTree, TwoEntries, VariantError
from variantnest.library import Library
from variantnest.texts import piece_text, read_piece, read_table, read_tree, table_text, tree_text

READERS = {"tree": read_tree, "table": read_table, "piece": read_piece}
CHECKS = {"tree": samples.is_tree, "table": samples.is_table, "piece": refusals.is_piece}
SIGNS = "abz {}=,;:<>@./-0159"


def wrong_at(kind, text):
    """The index that a reader names, or None for what it reads."""
    try:
        READERS[kind](text)
    except BadText as error:
        return error.at
    return None


class Writing(unittest.TestCase):

    def test_examples(self):
        tree = ((("x", 1), ("y", ("link", ()))), (("kid", ((("z", "off"),), ())),))
        self.assertEqual(tree_text(tree), "{x=1, y=@., kid{z=off}}")
        self.assertEqual(read_tree("{x=1, y=@., kid{z=off}}"), tree)
        piece = ("node", (), (("lamp", ("use", "light", 0, (("hide", ("bulb", "wire")), ("set", (), "x", 2)))),))
        self.assertEqual(piece_text(piece), "{lamp<light 0: hide bulb/wire; set . x 2>}")
        self.assertEqual(read_piece("{lamp<light 0: hide bulb/wire; set . x 2>}"), piece)

    def test_values(self):
        for worth, text in (
            (0, "0"), (7, "7"), (-7, "-7"), (HUGE, "9" * 30), (-HUGE, "-" + "9" * 30), ("off", "off"), ("link", "link"),
            (("link", ()), "@."), (("link", ("a",)), "@a"), (("link", EIGHT), "@a/b/c/d/e/f/g/h"),
        ):
            tree = ((("x", worth),), ())
            self.assertEqual(tree_text(tree), "{x=" + text + "}")
            self.assertEqual(read_tree("{x=" + text + "}"), tree)

    def test_trees(self):
        for tree, text in (
            (EMPTY, "{}"), (((), (("a", EMPTY),)), "{a{}}"),
            (((("a", 1), ("b", 2)), (("c", EMPTY), ("d", ((("e", 1),), ())))), "{a=1, b=2, c{}, d{e=1}}"),
            (chain(EIGHT), "{a{b{c{d{e{f{g{h{}}}}}}}}}"),
        ):
            self.assertEqual(tree_text(tree), text)
            self.assertEqual(tree_text(tree=lists(tree)), text)
            self.assertEqual(read_tree(text=text), tree)

    def test_tables(self):
        table = (("hide", ("a", "b")), ("drop", (), "x"), ("set", ("a",), "y", -1), ("put", ("c",), ((("z", 1),), ())))
        text = "hide a/b; drop . x; set a y -1; put c {z=1}"
        for some in (table, table[::-1], lists(table)):
            self.assertEqual(table_text(some), text)
        self.assertEqual(table_text(table=()), "")
        self.assertEqual(read_table(text), table)
        self.assertEqual(read_table(text=""), ())

    def test_pieces(self):
        for piece, text in (
            (("node", (), ()), "{}"), (("use", "t", 0, ()), "<t 0>"), (("use", "t", HUGE, ()), f"<t {HUGE}>"),
            (("use", "t", 2, (("put", ("a",), ("use", "u", 0, (("drop", (), "x"),))),)), "<t 2: put a <u 0: drop . x>>"),
            (("node", (("x", 1),), (("a", ("use", "t", 0, ())), ("b", ("node", (), ())))), "{x=1, a<t 0>, b{}}"),
        ):
            self.assertEqual(piece_text(piece), text)
            self.assertEqual(piece_text(piece=lists(piece)), text)
            self.assertEqual(read_piece(text=text), piece)

    def test_wrong(self):
        for value in (*JUNK, deep(900), deep(900, list)):
            if not self.is_known(samples.is_tree, value):
                self.assertEqual(refused(self, BadTree, tree_text, value), {})
            if not self.is_known(refusals.is_piece, value):
                self.assertEqual(refused(self, BadPiece, piece_text, value), {})
        self.assertEqual(refused(self, BadEntry, table_text, [("hide", ("a",)), None]), {"index": 1})
        self.assertEqual(refused(self, TwoEntries, table_text, [("hide", ("a",))] * 2), {"key": ("hide", ("a",))})

    def is_known(self, check, value):
        try:
            return check(tuples(value))
        except RecursionError:
            return False

    def test_there_and_back(self):
        rng = seeded(91)
        library = Library()
        library.make("t", read_piece("{x=1, a{b{}}, ab{}}"))
        for _ in range(120):
            for tree in (some_tree(rng), near_tree(rng)):
                self.assertEqual(read_tree(tree_text(tree)), tree)
                self.assertIsNone(first_wrong("tree", tree_text(tree)))
            for table in (some_table(rng), near_table(rng)):
                self.assertEqual(read_table(table_text(table)), table)
                self.assertIsNone(first_wrong("table", table_text(table)))
            piece = some_piece(rng, library)
            self.assertEqual(read_piece(piece_text(piece)), piece)
            self.assertIsNone(first_wrong("piece", piece_text(piece)))


class Reading(unittest.TestCase):

    def test_spaces(self):
        piece = read_piece("{x=-1, y=@a/b, z=@., a{}, b<t 2: hide a/b; drop . x; set c y 5; set c z ab; put d {}>}")
        tokens = ("{ x = -1 , y = @ a / b , z = @ . , a { } , b < t 2 : hide a / b ; drop . x ; set c y 5 ; set c z ab"
                  " ; put d { } > }")
        self.assertEqual(read_piece(tokens), piece)
        self.assertEqual(read_piece("  " + tokens.replace(" ", "   ") + "   "), piece)
        tight = "{x=-1,y=@a/b,z=@.,a{},b<t2:hide a/b;drop.x;set c y5;set c z ab;put d{}>}"
        self.assertEqual(read_piece(tight), piece)
        self.assertEqual(read_table("set.x-5;set.y@.;set.z@a"), read_table("set . x -5; set . y @.; set . z @a"))
        for kind, text, at in (
            ("tree", "{x=- 1}", 4), ("tree", "{x=1 0}", 5), ("tree", "{x=a b}", 5), ("tree", "{x y=1}", 3),
            ("table", "hi de a", 2), ("table", "hidea", 4), ("table", "set ab 1", 7), ("table", "put ab", 6),
            ("tree", "{x=1}\n", 5), ("tree", "\n{}", 0), ("tree", "{\n}", 1), ("table", "dropa x", 4),
        ):
            self.assertEqual(wrong_at(kind, text), at, text)

    def test_any_order(self):
        self.assertEqual(read_tree("{b=1, a=2, d{}, c{y=1, x=2}}"), read_tree("{a=2, b=1, c{x=2, y=1}, d{}}"))
        self.assertEqual(read_table("put a {}; set . x 1; hide a"), read_table("hide a; set . x 1; put a {}"))
        self.assertEqual(read_piece("<t 0: put a {}; hide a>"), read_piece("<t 0: hide a; put a {}>"))
        self.assertEqual(wrong_at("tree", "{a{}, x=1}"), 7)

    def test_words_as_names(self):
        self.assertEqual(read_table("set set set set; drop drop drop; hide hide; put put {put=put, hide{}}"), (
            ("hide", ("hide",)), ("drop", ("drop",), "drop"), ("set", ("set",), "set", "set"),
            ("put", ("put",), ((("put", "put"),), (("hide", EMPTY),))),
        ))
        self.assertEqual(read_piece("<set 0: put put <put 1>>")[3][0][2], ("use", "put", 1, ()))

    def test_names(self):
        self.assertEqual(read_tree("{abcdefgh=abcdefgh, a{}}")[0], (("abcdefgh", "abcdefgh"),))
        for kind, text, at in (
            ("tree", "{abcdefghi=1}", 9), ("tree", "{x=abcdefghi}", 11), ("table", "hide abcdefghi", 13),
            ("piece", "<abcdefghi 0>", 9), ("tree", "{x=@abcdefghij}", 12), ("tree", "{A=1}", 1), ("tree", "{a1=1}", 2),
            ("table", "settings a x 1", 3), ("table", "se", 2), ("table", "se ", 2), ("table", "x", 0),
        ):
            self.assertEqual(wrong_at(kind, text), at, text)

    def test_integers(self):
        for text, at in (
            ("{x=01}", 4), ("{x=-0}", 4), ("{x=-}", 4), ("{x=00}", 4), ("{x=--1}", 4), ("{x=+1}", 3), ("{x=1a}", 4),
            ("{x=-01}", 4), ("{x=-", 4), ("{x=1.5}", 4),
        ):
            self.assertEqual(wrong_at("tree", text), at, text)
        self.assertEqual(read_tree("{x=10, y=-10, z=0}")[0], (("x", 10), ("y", -10), ("z", 0)))
        for text, at in (("<t -1>", 3), ("<t 01>", 4), ("<t a>", 3), ("<t>", 2), ("<t 1 2>", 5)):
            self.assertEqual(wrong_at("piece", text), at, text)

    def test_paths(self):
        for kind, text, at in (
            ("table", "hide .", 5), ("table", "put . {}", 4), ("table", "hide a/", 7), ("table", "hide /a", 5),
            ("table", "set ./a x 1", 5), ("table", "drop a//b x", 7), ("tree", "{x=@}", 4), ("tree", "{x=@./a}", 5),
            ("table", "hide a.b", 6), ("piece", "<t 0: hide .>", 11), ("table", "drop a/. x", 7),
        ):
            self.assertEqual(wrong_at(kind, text), at, text)

    def test_what_is_missing(self):
        for kind, texts in (
            ("tree", ("", "   ", "{", "{x", "{x=", "{x=1", "{x=1,", "{a{}", "{a", "{x=@")),
            ("table", ("s", "set", "set .", "set . x", "set . x ", "hide a;", "hide a; ", "put a", "put a {", "drop a")),
            ("piece", ("", "<", "<t", "<t 0", "<t 0:", "<t 0: ", "<t 0: hide a", "<t 0: hide a;", "{a<t 0>", "<t 0: put a <t")),
        ):
            for text in texts:
                self.assertEqual(wrong_at(kind, text), len(text), text)
                self.assertEqual(first_wrong(kind, text), len(text), text)

    def test_what_is_too_much(self):
        for kind, text, at in (
            ("tree", "{}{}", 2), ("tree", "{} a", 3), ("tree", "<t 0>", 0), ("tree", "{a<t 0>}", 2), ("table", ";", 0),
            ("table", "hide a;;", 7), ("table", "hide a hide b", 7), ("piece", "<t 0:>", 5), ("piece", "<t 0: >", 6),
            ("piece", "<t 0> >", 6), ("table", "put a <t 0>", 6), ("tree", "{,}", 1), ("tree", "{x=1,}", 5),
            ("tree", "{x=1 a{}}", 5), ("piece", "{a <t 0> x=1}", 9), ("piece", "{}<", 2), ("tree", "", 0),
        ):
            self.assertEqual(wrong_at(kind, text), at, text)

    def test_twice_and_too_long(self):
        for kind, texts in (
            ("tree", ("{x=1, x=1}", "{a{}, a{}}", "{a{x=1, y=1, x=2}} ", "{x=@a/b/c/d/e/f/g/h/i}", "{a{b{c{d{e{f{g{h{i{}}}}}}}}}}",
                      " {b{}, a{}, b{}}")),
            ("table", ("hide a; hide a", "set . x 1; drop . x", "put a {}; put b {}; put a {x=1}", "hide a/b/c/d/e/f/g/h/i",
                       "put a/b/c/d/e/f/g/h {i{}}", "set . x @a/b/c/d/e/f/g/h/i", "put a {x=1, x=1}", "set a x 1;set a x 1  ")),
            ("piece", ("{x=1, x=2}", "{a<t 0>, a{}}", "<t 0: hide a; hide a>", "{a<t 0: hide b/c/d/e/f/g/h/i>}",
                       "<t 0: put a/b/c/d <t 0: put e/f/g/h {i{}}>>", "{a{b<t 0: put c <u 0: hide a/b/c/d/e/f>>}}",
                       "{a{b{c{d{e{f{g{h{i<t 0>}}}}}}}}}", "{a<t 0: put b {x=1, x=1}>}  ")),
        ):
            for text in texts:
                self.assertEqual(wrong_at(kind, text), len(text), text)
                self.assertIsNone(first_wrong(kind, text), text)
        read_tree("{x=@a/b/c/d/e/f/g/h, a{b{c{d{e{f{g{h{}}}}}}}}, aa{x=1}, b{x=1}}")
        read_table("put a/b/c/d/e/f/g {h{}}; hide a/b/c/d/e/f/g/h")
        read_piece("{a<t 0: hide b/c/d/e/f/g/h; put b/c <t 0: put d/e <u 0: hide f/g/h>>>}")

    def test_the_form_ahead_of_what_stands_twice(self):
        self.assertEqual(wrong_at("tree", "{x=1, x=1, }"), 11)
        self.assertEqual(wrong_at("table", "hide a; hide a; x"), 16)
        self.assertEqual(wrong_at("piece", "{x=1, x=1}}"), 10)

    def test_each_beginning(self):
        texts = {
            "tree": " {x=-10, yy=@a/b , z=@., w=off, a{ b{}}, c{q=0}} ",
            "table": "hide a/b; drop . x; set c/d y -5 ;set . z @. ; put e/f {g=1, h{}};set q w on",
            "piece": "{x=1, a<t 0>, b < u 12: hide a ; set . x 5; put c {d<v 0: drop . q>}; put d <w 1>> , c{}}",
        }
        for kind, text in texts.items():
            self.assertIsNone(wrong_at(kind, text))
            for end in range(len(text)):
                self.assertEqual(wrong_at(kind, text[:end]), first_wrong(kind, text[:end]), text[:end])
                for sign in SIGNS + "%A\n":
                    self.same(kind, text[:end] + sign)
                self.same(kind, text[:end] + text[end + 1:])

    def same(self, kind, text):
        """A reader says what the grammar says, and behind that refuses what stands twice or is too long."""
        at = first_wrong(kind, text)
        found = wrong_at(kind, text)
        if at is None:
            self.assertIn(found, (None, len(text)), text)
            if found is None:
                self.assertTrue(CHECKS[kind](READERS[kind](text)))
        else:
            self.assertEqual(found, at, text)

    def test_many_texts(self):
        rng = seeded(92)
        library = Library()
        library.make("t", read_piece("{x=1, a{b{}}, ab{}}"))
        for _ in range(300):
            for kind, text in (
                ("tree", tree_text(near_tree(rng))), ("table", table_text(near_table(rng))),
                ("piece", piece_text(some_piece(rng, library))),
            ):
                for _ in range(rng.randint(1, 3)):
                    at = rng.randint(0, len(text))
                    text = text[:at] + rng.choice(("", " ", *SIGNS)) + text[at + rng.randint(0, 2):]
                self.same(kind, text)

    def test_short_texts(self):
        rng = seeded(93)
        for _ in range(1500):
            text = "".join(rng.choice(SIGNS) for _ in range(rng.randint(0, 8)))
            for kind in READERS:
                self.same(kind, text)
                self.same(kind, "{a" + text + "}")

    def test_deep_texts(self):
        for many in (9, 30, 60):
            self.assertEqual(wrong_at("tree", "{a" * many + "{}" + "}" * many), 3 * many - many + many + 2)
            text = "<t 0: put a " * many + "{}" + ">" * many
            self.assertEqual(wrong_at("piece", text), len(text))
            self.assertEqual(wrong_at("piece", text[:-1]), len(text) - 1)

    def test_later_calls_are_the_same(self):
        for _ in range(2):
            self.assertEqual(read_tree("{a{}}"), ((), (("a", EMPTY),)))
            self.assertRaises(VariantError, read_tree, "{a{}")
