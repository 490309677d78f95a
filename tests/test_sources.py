"""[34], [35]: sources of props, places of templates, differences of libraries."""

import unittest

from tests.plain import Plain, linked
from tests.samples import JUNK, deep, is_name, paths_of, seeded, tuples
from tests.shelf import P, TABLE, path, shelf
from tests.stories import KEEPING, some_step
from variantnest.errors import BadName, NoNode, UnknownTemplate, VariantError
from variantnest.library import Library, differences

OTHERS = (*JUNK, deep(300), deep(300, list))


def plain_sources(plain, name, at, prop, ahead=()):
    """[34], by the rules of the document, with links that get the paths of the uses ahead."""
    def row(some, release, place, word, worth):
        return (some, release, place, word, linked({prop: worth}, ahead)[prop] if word != "drop" else None)

    piece, place, here = plain.pieces[name], None, ()
    rest = at
    while True:
        if piece[0] == "node" and rest:
            here += rest[:1]
            piece = dict(piece[2])[rest[0]]
            rest = rest[1:]
        elif piece[0] == "node":
            props = dict(piece[1])
            return [row(name, 0, place or (), "own", props[prop])] if prop in props else []
        else:
            place = here if place is None else place
            puts = [entry for entry in plain.acting(piece) if rest[:len(entry[1])] == entry[1]]
            if not puts:
                break
            here += puts[0][1]
            rest = rest[len(puts[0][1]):]
            piece = puts[0][2]
    found = []
    for entry in piece[3]:
        if entry[0] in ("set", "drop") and entry[1:3] == (rest, prop):
            found.append(row(name, 0, place, entry[0], entry[3] if entry[0] == "set" else None))
    ahead = ahead + here
    if piece[2] == 0:
        return found + plain_sources(plain, piece[1], rest, prop, ahead)
    props = plain.rows(piece[1], piece[2]).get(rest, {})
    return found + ([row(piece[1], piece[2], (), "release", props[prop])] if prop in props else [])


def plain_places(plain, name):
    """[35]: all templates and paths at which a template is shown."""
    def paths(some):
        if some == name:
            return {()}
        found = set()
        for at, use in plain.shown_uses(plain.pieces[some]):
            if use[2] == 0:
                taken = [entry[1] for entry in (*plain.acting(use), *use[3]) if entry[0] in ("hide", "put")
                         and (entry[0] == "hide" or entry in plain.acting(use))]
                for below in paths(use[1]):
                    if not any(below[:len(one)] == one for one in taken):
                        found.add(at + below)
        return found

    return sorted((some, at) for some in plain.names for at in paths(some))


class Sources(unittest.TestCase):

    def test_the_example(self):
        library = shelf("l {}", "t {}")
        library.define("t", (
            "node", (), (("a", ("use", "l", 0, (("put", ("b",), ("node", (("x", 1),), ())),))),),
        ))
        self.assertEqual(library.sources("t", ("a", "b"), "x"), [("t", 0, ("a",), "own", 1)])

    def test_through_nodes_alone(self):
        library = shelf("t {x=1, l=@a, a{x=2}}")
        self.assertEqual(library.sources("t", (), "x"), [("t", 0, (), "own", 1)])
        self.assertEqual(library.sources("t", ["a"], "x"), [("t", 0, (), "own", 2)])
        self.assertEqual(library.sources(name="t", path=(), prop="l"), [("t", 0, (), "own", ("link", ("a",)))])
        self.assertEqual(library.sources("t", ("a",), "l"), [])

    def test_through_several_uses(self):
        library = shelf(
            "a {x=1, l=@b, b{y=1}}", "c {k<a 0: drop . x; set b y 2; set . l @k>}", "d {m<c 0: set k x 3; drop k/b y>}",
            "e <d 0: set m/k x 4; drop m/k l>",
        )
        self.assertEqual(library.sources("e", path("m/k"), "x"), [
            ("e", 0, (), "set", 4), ("d", 0, ("m",), "set", 3), ("c", 0, ("k",), "drop", None), ("a", 0, (), "own", 1),
        ])
        self.assertEqual(library.sources("e", path("m/k/b"), "y"), [
            ("d", 0, ("m",), "drop", None), ("c", 0, ("k",), "set", 2), ("a", 0, (), "own", 1),
        ])
        self.assertEqual(library.sources("e", path("m/k"), "l"), [
            ("e", 0, (), "drop", None), ("c", 0, ("k",), "set", ("link", path("m/k"))),
            ("a", 0, (), "own", ("link", path("m/k/b"))),
        ])
        self.assertEqual(library.sources("e", path("m"), "x"), [])

    def test_put_pieces(self):
        library = shelf(
            "a {x=1, l=@b, b{}}",
            "c {k{m<a 0: set n x 7; put n <a 0: set . x 2; put o {x=3, p<a 0: set . l @q>}>; put n/b {x=8}>}}",
        )
        self.assertEqual(library.sources("c", path("k/m/n"), "x"), [("c", 0, path("k/m"), "set", 2), ("a", 0, (), "own", 1)])
        self.assertEqual(library.sources("c", path("k/m/n"), "l"), [("a", 0, (), "own", ("link", path("k/m/n/b")))])
        self.assertEqual(library.sources("c", path("k/m/n/o"), "x"), [("c", 0, path("k/m"), "own", 3)])
        self.assertEqual(library.sources("c", path("k/m/n/o"), "l"), [])
        self.assertEqual(library.sources("c", path("k/m/n/o/p"), "l"), [
            ("c", 0, path("k/m"), "set", ("link", ("q",))), ("a", 0, (), "own", ("link", path("k/m/n/o/p/b"))),
        ])

    def test_releases(self):
        library = shelf("a {x=1, l=@b, b{}}", "c {k<a 0: set . x 5>}")
        library.release("a")
        library.release("c")
        library.define("a", P("{x=2}"))
        library.make("d", P("{m<a 1: set . x 4>, n<c 1>}"))
        self.assertEqual(library.sources("d", ("m",), "x"), [("d", 0, ("m",), "set", 4), ("a", 1, (), "release", 1)])
        self.assertEqual(library.sources("d", ("m",), "l"), [("a", 1, (), "release", ("link", path("m/b")))])
        self.assertEqual(library.sources("d", path("n/k"), "x"), [("c", 1, (), "release", 5)])
        self.assertEqual(library.sources("d", path("n/k"), "l"), [("c", 1, (), "release", ("link", path("n/k/b")))])
        self.assertEqual(library.sources("d", ("n",), "x"), [])

    def test_links_with_more_than_eight_names(self):
        library = shelf("a {l=@a/b/c/d/e/f/g/h}", "c {k{m<a 0: set . l 1>}}", "d {n<c 0: drop k/m l>}")
        self.assertEqual(library.sources("d", path("n/k/m"), "l"), [
            ("d", 0, ("n",), "drop", None), ("c", 0, path("k/m"), "set", 1),
            ("a", 0, (), "own", ("link", path("n/k/m/a/b/c/d/e/f/g/h"))),
        ])

    def test_wrong(self):
        library = shelf("s {b{}}", "t {x=1, a{}, c<s 0: hide b; put d {}>}")
        for value in OTHERS:
            self.refuses(library, UnknownTemplate, {"name": tuples(value)}, value, None, None)
            if value not in ((), [], ("a",), ["a"]):
                self.refuses(library, NoNode, {"path": tuples(value)}, "t", value, None)
            if not is_name(value):
                self.refuses(library, BadName, {"name": tuples(value)}, "t", (), value)
        for where in ("q", "c/b", "c/d/e", "a/a"):
            self.refuses(library, NoNode, {"path": path(where)}, "t", path(where), None)

    def refuses(self, library, error, fields, *passed):
        with self.assertRaises(error) as held:
            library.sources(*passed)
        self.assertEqual(vars(held.exception), fields)


class Places(unittest.TestCase):

    def test_places(self):
        library = shelf(
            "t {a{}}", "u {k<t 0>, l<t 0: hide a>}", "v <u 0: hide l>", "w <u 0: put k/q <t 0>; put l {}; put z/z <t 0>>",
            "x {m<v 0>, n<w 0: hide k; put k <t 0: put r <u 0>>>}", "y {}",
        )
        self.assertEqual(library.places("t"), [
            ("t", ()), ("u", ("k",)), ("u", ("l",)), ("v", ("k",)), ("w", ("k",)), ("w", path("k/q")), ("w", ("l",)),
            ("x", path("m/k")), ("x", path("n/k")), ("x", path("n/k/r/k")), ("x", path("n/k/r/l")), ("x", path("n/l")),
        ])
        self.assertEqual(library.places(name="u"), [
            ("u", ()), ("v", ()), ("w", ()), ("x", ("m",)), ("x", ("n",)), ("x", path("n/k/r")),
        ])
        self.assertEqual(library.places("y"), [("y", ())])

    def test_hide_and_put_entries_on_the_way(self):
        library = shelf("t {}", "u {a{b<t 0>}}", "v {k<u 0: hide a>}", "w {k<u 0: hide a; put a {b{}}>}",
                        "x {k<u 0: hide a/b; put a/b <t 0>>}", "y {k<u 0: put a/b <u 0>; hide c>}")
        self.assertEqual(library.places("t"), [("t", ()), ("u", path("a/b")), ("x", path("k/a/b")), ("y", path("k/a/b"))])

    def test_releases_are_none(self):
        library = shelf("t {}")
        library.release("t")
        library.make("u", P("{a<t 1: put b <t 0>>, c<t 1>}"))
        library.release("u")
        library.make("v", P("{d<u 1>}"))
        self.assertEqual(library.places("t"), [("t", ()), ("u", path("a/b"))])

    def test_unknown(self):
        library = shelf("t {}")
        for value in OTHERS:
            with self.assertRaises(UnknownTemplate) as held:
                library.places(value)
            self.assertEqual(vars(held.exception), {"name": tuples(value)})


class Differences(unittest.TestCase):

    def test_differences(self):
        one = shelf("a {x=1}", "b {k<a 0>}", "c {}", "d {}")
        other = shelf("a {x=2, y{}}", "b {k<a 0: set . x 1>}", "c {}", "e {}")
        self.assertEqual(differences(one, other), [("a", TABLE("set . x 2; put y {}")), ("b", TABLE("put k/y {}"))])
        self.assertEqual(differences(one=other, other=one), [
            ("a", TABLE("hide y; set . x 1")), ("b", TABLE("hide k/y")),
        ])
        self.assertEqual(differences(one, one), [])
        self.assertEqual(differences(Library(), one), [])
        differences(one, other).clear()
        self.assertEqual(len(differences(one, other)), 2)


class Many(unittest.TestCase):

    def test_many_libraries(self):
        rows = 0
        for number in range(60):
            rng = seeded(number)
            library = Library()
            for _ in range(30):
                step = some_step(rng, library, KEEPING)
                try:
                    getattr(library, step[0])(*step[1:])
                except VariantError:
                    pass
            plain = Plain(library)
            for name in library.names():
                self.assertEqual(library.places(name), plain_places(plain, name))
                shown = paths_of(library.shown(name))
                for at in shown:
                    for prop in ("x", "y", "z", "rank"):
                        found = library.sources(name, at, prop)
                        self.assertEqual(found, plain_sources(plain, name, at, prop))
                        self.assertEqual(found[0][4] if found else None, shown[at].get(prop))
                        rows = max(rows, len(found))
        self.assertGreaterEqual(rows, 3)
