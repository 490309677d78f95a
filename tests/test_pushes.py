"""[27], [28]: overrides pushed up into what is used."""

import unittest

from tests.samples import JUNK, deep, tuples
from tests.shelf import TABLE, P, agrees, keeps, path, shelf, text, trees
from variantnest.between import between
from variantnest.errors import Frozen, NoKey, NoUse, Outside, Rests, Ring, TooLarge, UnknownTemplate

OTHERS = (*JUNK, deep(300), deep(300, list))


def key(words):
    word, where, *rest = words.split(" ")
    return (word, path(where), *rest)


class Push(unittest.TestCase):

    def pushed(self, library, name, place, words, same=True):
        """Push, and check what is returned; at the place nothing changes, if it is to be the same."""
        before = trees(library)
        result = library.push(name, path(place), key(words))
        behind = trees(library)
        changed = [some for some in library.names() if before[some] != behind[some]]
        self.assertEqual(result, [(some, between(before[some], behind[some])) for some in changed])
        agrees(self, library)
        if same:
            self.assertEqual(before[name], behind[name])
        self.assertEqual(library.history()[-1], ("push", name, path(place), key(words)))
        return changed

    def test_props(self):
        library = shelf("t {x=1, a{y=1}}", "u {k{l<t 0: set . x 2; drop a y; set a z 3>}}", "v <t 0: set a z 4>", "w {}")
        result = library.push("u", path("k/l"), key("prop . x"))
        self.assertEqual(result, [("t", TABLE("set . x 2")), ("v", TABLE("set . x 2"))])
        self.assertEqual((text(library, "t"), text(library, "u")), ("{x=2, a{y=1}}", "{k{l<t 0: drop a y; set a z 3>}}"))
        self.assertEqual(self.pushed(library, "u", "k/l", "prop a y"), ["t", "v"])
        self.assertEqual(self.pushed(library, "v", ".", "prop a z"), ["t"])
        self.assertEqual(text(library, "t"), "{x=2, a{z=4}}")
        self.assertEqual((text(library, "u"), text(library, "v")), ("{k{l<t 0: set a z 3>}}", "<t 0>"))
        self.assertEqual(self.pushed(library, "u", "k/l", "prop a z"), ["t", "v"])

    def test_what_says_the_same(self):
        library = shelf("t {x=1}", "u <t 0: set . x 1>", "v <t 0: drop . y>")
        self.assertEqual(self.pushed(library, "u", ".", "prop . x"), [])
        self.assertEqual(self.pushed(library, "v", ".", "prop . y"), [])
        self.assertEqual([text(library, name) for name in "tuv"], ["{x=1}", "<t 0>", "<t 0>"])

    def test_hide_moves_alone(self):
        library = shelf("t {a{b{}}, c{}}", "u {k<t 0: hide a; set a x 1; set a/b x 1; put a {}>}")
        self.assertEqual(self.pushed(library, "u", "k", "hide a"), ["t"])
        self.assertEqual((text(library, "t"), text(library, "u")), (
            "{c{}}", "{k<t 0: set a x 1; set a/b x 1; put a {}>}",
        ))
        self.assertEqual(self.pushed(library, "u", "k", "put a"), ["t"])
        self.assertEqual((text(library, "t"), text(library, "u")), ("{a{}, c{}}", "{k<t 0>}"))

    def test_hide_of_what_an_entry_put(self):
        library = shelf("t {b{}}", "m <t 0: put a {z{}}>", "u {k<m 0: hide a; put a {}>}")
        self.assertEqual(self.pushed(library, "u", "k", "hide a"), ["m"])
        self.assertEqual((text(library, "m"), text(library, "u")), ("<t 0>", "{k<m 0: put a {}>}"))

    def test_put_with_hide(self):
        library = shelf(
            "t {a{b{}}, c{}}",
            "u {k<t 0: hide a; hide a/b; hide c; drop a x; set . x 1; set a/b x 1; put a {y=@k/a}; put a/d {}>}",
        )
        self.assertEqual(self.pushed(library, "u", "k", "put a"), ["t"])
        self.assertEqual((text(library, "t"), text(library, "u")), ("{a{y=@a}, c{}}", "{k<t 0: hide c; set . x 1>}"))

    def test_put_with_a_hide_entry_of_no_node(self):
        library = shelf("t {c{}}", "u {k<t 0: hide a; hide ab; set a x 1; put a {}; put ab {}; put a/d {}>}")
        self.assertEqual(self.pushed(library, "u", "k", "put a"), ["t"])
        self.assertEqual((text(library, "t"), text(library, "u")), ("{a{}, c{}}", "{k<t 0: hide ab; put ab {}>}"))
        self.assertEqual(self.pushed(library, "u", "k", "put ab"), ["t"])
        self.assertEqual((text(library, "t"), text(library, "u")), ("{a{}, ab{}, c{}}", "{k<t 0>}"))

    def test_below_nodes_that_entries_put(self):
        library = shelf("t {a{b{}}, c{}}", "m <t 0: hide a; put a {z{}}>", "u {k<m 0: set a/z x @k/a; hide c>}")
        self.assertEqual(self.pushed(library, "u", "k", "prop a/z x"), ["m"])
        self.assertEqual(text(library, "m"), "<t 0: hide a; put a {z{x=@a}}>")
        self.assertEqual(self.pushed(library, "u", "k", "hide c"), ["m"])
        self.assertEqual(text(library, "m"), "<t 0: hide a; hide c; put a {z{x=@a}}>")
        library.define("u", P("<m 0: hide a; put a <t 0>>"))
        self.assertEqual(self.pushed(library, "u", ".", "put a"), ["m"])
        self.assertEqual(text(library, "m"), "<t 0: hide a; hide c; put a <t 0>>")

    def test_one_after_another_down_a_chain(self):
        library = shelf("a {x=1}", "b {k<a 0>}", "c {l<b 0: set k x @l/k; put k/n {m=@l/k/n}>}")
        self.assertEqual(self.pushed(library, "c", "l", "prop k x"), ["b"])
        self.assertEqual(self.pushed(library, "b", "k", "prop . x"), ["a"])
        self.assertEqual(self.pushed(library, "c", "l", "put k/n"), ["b"])
        self.assertEqual(self.pushed(library, "b", "k", "put n"), ["a"])
        self.assertEqual([text(library, name) for name in "abc"], ["{x=@., n{m=@n}}", "{k<a 0>}", "{l<b 0>}"])

    def test_links_lose_the_place(self):
        library = shelf(
            "t {a{}}",
            "u {k{l<t 0: set a x @k/l; put b {y=@k/l/b, c<t 0: set a z @k/l/a; put q {w=@k/l}>}>}}",
        )
        # What is put uses t itself, so it changes, too.
        self.assertEqual(self.pushed(library, "u", "k/l", "prop a x", False), ["t", "u"])
        self.assertEqual(text(library, "t"), "{a{x=@.}}")
        library.make("s", P("{}"))
        library.define("u", P("{k{l<t 0: put b {y=@k/l/b, c<s 0: set . z @k/l/a; put q {w=@k/l}>}>}}"))
        self.assertEqual(self.pushed(library, "u", "k/l", "put b"), ["t"])
        self.assertEqual(text(library, "t"), "{a{x=@.}, b{y=@b, c<s 0: set . z @a; put q {w=@.}>}}")

    def test_at_the_root_each_link_begins_with_the_place(self):
        library = shelf("t {a{}}", "u <t 0: set a x @q/r; put b {y=@a}>")
        self.assertEqual(self.pushed(library, "u", ".", "prop a x"), ["t"])
        self.assertEqual(self.pushed(library, "u", ".", "put b"), ["t"])
        self.assertEqual(text(library, "t"), "{a{x=@q/r}, b{y=@a}}")

    def test_a_put_entry_that_uses_the_used_template(self):
        library = shelf("t {a{}}", "w <t 0>", "u {k<t 0: set a x 1; put b <w 0>>}")
        keeps(self, library, Ring, (library_ring(library),), "push", "u", ("k",), ("put", ("b",)))
        self.assertEqual(self.pushed(library, "u", "k", "prop a x", False), ["t", "u", "w"])
        self.assertEqual(text(library, "u"), "{k<t 0: put b <w 0>>}")

    def test_other_users_see_the_change(self):
        library = shelf("t {a{}}", "u {k<t 0: hide a>}", "v {k<t 0: set a x 1; put a/b {}>}", "w <v 0: put k/a {}>")
        self.assertEqual(self.pushed(library, "u", "k", "hide a"), ["t", "v", "w"])

    def test_lists_and_keywords(self):
        library = shelf("t {a{}}", "u {k<t 0: hide a; set . x 1>}")
        self.assertEqual(library.push("u", ["k"], ["hide", ["a"]]), [("t", TABLE("hide a"))])
        self.assertEqual(library.push(name="u", place=("k",), key=("prop", (), "x")), [("t", TABLE("set . x 1"))])
        self.assertEqual(library.history()[-2:], [
            ("push", "u", ("k",), ("hide", ("a",))), ("push", "u", ("k",), ("prop", (), "x")),
        ])


def library_ring(library):
    """The ring that is told when the put entry of u is pushed into t."""
    try:
        library.copy().push("u", ("k",), ("put", ("b",)))
    except Ring as error:
        return error.circle
    return None


class Refused(unittest.TestCase):

    def test_unknown_things(self):
        library = shelf("t {a{}}", "u {k<t 0: hide a; put z {}>}")
        for value in OTHERS:
            keeps(self, library, UnknownTemplate, (tuples(value),), "push", value, None, None)
            keeps(self, library, NoUse, (tuples(value),), "push", "u", value, None)
            keeps(self, library, NoKey, (tuples(value),), "push", "u", ("k",), value)
        keeps(self, library, NoUse, ((),), "push", "u", (), ("hide", ("a",)))
        keeps(self, library, NoKey, (("put", ("a",)),), "push", "u", ("k",), ("put", ("a",)))

    def test_frozen_ahead_of_resting(self):
        library = shelf("t {a{}}")
        library.release("t")
        library.release("t")
        library.make("u", P("{k<t 2: hide q; set a x @q>}"))
        keeps(self, library, NoKey, (("hide", ("a",)),), "push", "u", ("k",), ("hide", ("a",)))
        keeps(self, library, Frozen, ("t", 2), "push", "u", ("k",), ("hide", ("q",)))
        keeps(self, library, Frozen, ("t", 2), "push", "u", ("k",), ("prop", ("a",), "x"))

    def test_resting_ahead_of_links(self):
        library = shelf(
            "t {a{b{}}, c{}}",
            "u {k<t 0: hide a; hide a/b; hide q; drop q x; set a x @z; set c x @z; put a {}; put a/z {l=@z}; put c {};"
            " put q/r {l=@z}>}",
        )
        for words in ("hide a/b", "hide q", "prop q x", "prop a x", "put a/z", "put c", "put q/r"):
            keeps(self, library, Rests, (key(words),), "push", "u", ("k",), key(words))
        for words in ("hide a", "put a"):
            library.push("u", ("k",), key(words))
            library.undo()
        keeps(self, library, Outside, (("z",),), "push", "u", ("k",), key("prop c x"))

    def test_the_first_link_that_leads_out(self):
        library = shelf("t {a{}}", "s {}")
        for words, first in (
            ("set a x @kk", "kk"), ("set a x @.", "."), ("put b {x=@k, y=@q, z=@r}", "q"),
            ("put b {y=@k/b, c{x=@p}, d{x=@q}}", "p"), ("put b <s 0: set . x @q; put z {y=@r}>", "q"),
            ("put b <s 0: put a {y=@r}; put z {y=@s}>", "r"), ("put b {z=@q, a{x=@r}}", "q"),
            ("put b {c<s 0: set . y @k>, d<s 0: set . x @l>}", "l"),
        ):
            library.make("u", P("{k<t 0: %s>}" % words))
            entry = library.uses("u")[0][3][0]
            name = ("prop", *entry[1:3]) if entry[0] == "set" else entry[:2]
            keeps(self, library, Outside, (path(first),), "push", "u", ("k",), name)
            library.remove("u")

    def test_rings_and_sizes(self):
        library = shelf("t {a{}}", "u {k<t 0: put b <t 0>>}", "deep {a{b{c{d{e{f{g{h{}}}}}}}}}")
        keeps(self, library, Ring, (("t",),), "push", "u", ("k",), ("put", ("b",)))
        library.define("u", P("<t 0: put b {c{d{e{f{g{}}}}}}>"))
        library.make("v", P("{a{b{c<t 0>}}}"))
        keeps(self, library, TooLarge, ("v",), "push", "u", (), ("put", ("b",)))
        library.define("v", P("{a{b{c<t 0: hide b>}}}"))
        library.push("u", (), ("put", ("b",)))
        agrees(self, library)
