"""[4], [5], [11], [12]: entries and tables."""

import itertools
import unittest

from tests import samples
from tests.samples import (
    EIGHT, HUGE, JUNK, NINE, chain, deep, lists, refused, seeded, some_entry, some_table, spoiled, tuples,
)
from variantnest.errors import BadEntry, NoKey, TwoEntries
from variantnest.tables import (
    entry_with, is_entry, is_table, key_of, make_table, with_entry, without_entry,
)

EMPTY = ((), ())
SET = ("set", ("a",), "x", 1)
DROP = ("drop", (), "y")
HIDE = ("hide", ("b", "c"))
PUT = ("put", ("a",), ((("x", ("link", ())),), (("k", EMPTY),)))
ENTRIES = (SET, DROP, HIDE, PUT)
KEYS = (("prop", ("a",), "x"), ("prop", (), "y"), ("hide", ("b", "c")), ("put", ("a",)))
TABLE = (HIDE, DROP, SET, PUT)
NO_ENTRIES = (
    ("set", (), "x"), ("set", (), "x", 1, 1), ("set", (), "X", 1), ("set", (), "x", True), ("set", (), "x", None),
    ("set", NINE, "x", 1), ("set", "a", "x", 1), ("set", (), "x", ("link", NINE)), ("set", (), 1, 1), ("set",),
    ("drop", ()), ("drop", (), "x", 1), ("drop", (), "X"), ("drop", NINE, "x"), ("drop", "a", "x"), ("drop", (), 1),
    ("hide", ()), ("hide",), ("hide", ("a",), 1), ("hide", NINE), ("hide", "a"), ("hide", None), ("hide", ("A",)),
    ("put", (), EMPTY), ("put", ("a",)), ("put", ("a",), EMPTY, 1), ("put", ("a",), ()), ("put", ("a",), None),
    ("put", NINE, EMPTY), ("put", "a", EMPTY), ("put", ("a",), ((("x", True),), ())),
    ("put", ("a",), ((("b", 1), ("a", 1)), ())), ("prop", (), "x"), ("prop", (), "x", 1), ("Set", (), "x", 1),
    (None, (), "x"), (("set",), (), "x", 1), (), "set", "", 0, True, None, ((), ()),
)


class IsEntry(unittest.TestCase):

    def test_the_four_kinds(self):
        for entry in ENTRIES:
            self.assertIs(is_entry(entry), True)

    def test_a_part_more_or_less(self):
        for entry in ENTRIES:
            self.assertIs(is_entry(entry[:-1]), False)
            for part in (1, "x", (), EMPTY):
                self.assertIs(is_entry((*entry, part)), False)
            self.assertIs(is_entry(entry[1:]), False)

    def test_the_root(self):
        self.assertIs(is_entry(("set", (), "x", 1)), True)
        self.assertIs(is_entry(("drop", (), "x")), True)
        self.assertIs(is_entry(("hide", ())), False)
        self.assertIs(is_entry(("put", (), EMPTY)), False)

    def test_values(self):
        for value in (0, HUGE, -HUGE, "on", ("link", ()), ("link", EIGHT)):
            self.assertIs(is_entry(("set", (), "x", value)), True)
        for value in (True, False, None, "", "On", ("link", NINE), ["link", []], ("link", [])):
            self.assertIs(is_entry(("set", (), "x", value)), False)

    def test_long_paths(self):
        for path, longer in ((EIGHT, True), (NINE, False)):
            self.assertIs(is_entry(("set", path, "x", 1)), longer)
            self.assertIs(is_entry(("drop", path, "x")), longer)
            self.assertIs(is_entry(("hide", path)), longer)
            self.assertIs(is_entry(("put", path, EMPTY)), longer)

    def test_what_a_put_entry_reaches(self):
        for split in range(1, 9):
            self.assertIs(is_entry(("put", EIGHT[:split], chain(EIGHT[split:]))), True)
            self.assertIs(is_entry(("put", EIGHT[:split], chain(NINE[split:]))), False)
        side = ((), (("a", EMPTY), ("b", chain(EIGHT[2:]))))
        self.assertIs(is_entry(("put", ("a",), side)), True)
        self.assertIs(is_entry(("put", ("a", "b"), side)), False)

    def test_links_in_put_trees_may_be_of_any_length(self):
        self.assertIs(is_entry(("put", EIGHT, ((("x", ("link", EIGHT)),), ()))), True)

    def test_lists(self):
        for entry in ENTRIES:
            self.assertIs(is_entry(list(entry)), False)
            self.assertIs(is_entry(lists(entry)), False)
            self.assertIs(is_entry((entry[0], list(entry[1]), *entry[2:])), False)
        self.assertIs(is_entry((*PUT[:2], list(PUT[2]))), False)

    def test_no_entries(self):
        for value in NO_ENTRIES:
            self.assertIs(is_entry(value), False, value)

    def test_any_object(self):
        for value in JUNK:
            self.assertIs(is_entry(value), samples.is_entry(value))
        for word in ("set", "drop", "hide", "put"):
            for one, other in itertools.product(JUNK, repeat=2):
                for value in ((word, one), (word, one, other), (word, ("a",), one, other), (one, other, "x")):
                    self.assertIs(is_entry(value), samples.is_entry(value), value)
            self.assertIs(is_entry((word, deep(900))), False)
            self.assertIs(is_entry((word, ("a",), deep(900))), False)

    def test_entries_with_a_flaw(self):
        rng = seeded(11)
        for _ in range(3000):
            entry = some_entry(rng)
            self.assertIs(is_entry(entry), True)
            value = spoiled(rng, entry)
            self.assertIs(is_entry(value), samples.is_entry(value), value)


class IsTable(unittest.TestCase):

    def test_tables(self):
        for table in ((), TABLE, (SET,), (("hide", ("a",)), ("put", ("a",), EMPTY))):
            self.assertIs(is_table(table), True)

    def test_order(self):
        tables = [some for some in itertools.permutations(ENTRIES) if is_table(some)]
        self.assertEqual(tables, [TABLE])

    def test_order_of_keys_not_of_entries(self):
        one, other = ("set", (), "x", 1), ("drop", (), "y")
        self.assertIs(is_table((one, other)), True)
        self.assertIs(is_table((other, one)), False)
        one, other = ("drop", (), "x"), ("set", (), "y", 1)
        self.assertIs(is_table((one, other)), True)

    def test_the_same_key_twice(self):
        for other in (SET, ("set", ("a",), "x", 2), ("drop", ("a",), "x")):
            self.assertIs(is_table((SET, other)), False)
            self.assertIs(is_table((other, SET)), False)

    def test_lists(self):
        self.assertIs(is_table([]), False)
        self.assertIs(is_table(list(TABLE)), False)
        self.assertIs(is_table((list(SET),)), False)
        self.assertIs(is_table((*TABLE[:3], lists(PUT))), False)

    def test_any_object(self):
        for value in (*JUNK, *[(entry,) for entry in NO_ENTRIES], SET, "", deep(900), deep(900, list)):
            self.assertIs(is_table(value), samples.is_table(value))

    def test_tables_with_a_flaw(self):
        rng = seeded(12)
        verdicts = []
        for _ in range(3000):
            table = some_table(rng)
            self.assertIs(is_table(table), True)
            value = spoiled(rng, table)
            verdicts.append(is_table(value))
            self.assertIs(verdicts[-1], samples.is_table(value), value)
        self.assertIn(True, verdicts)
        self.assertIn(False, verdicts)


class KeyOf(unittest.TestCase):

    def test_keys(self):
        for entry, key in zip(ENTRIES, KEYS):
            self.assertEqual(key_of(entry), key)
            self.assertEqual(key_of(entry), key)
            self.assertEqual(key_of(lists(entry)), key)

    def test_set_and_drop_have_the_same(self):
        self.assertEqual(key_of(("set", (), "x", 1)), key_of(("drop", (), "x")))

    def test_no_entry(self):
        junk = [value for value in JUNK if not samples.is_entry(tuples(value))]
        for value in (*NO_ENTRIES, *junk, deep(900), deep(900, list)):
            self.assertEqual(refused(self, BadEntry, key_of, value), {"index": 0})


class MakeTable(unittest.TestCase):

    def test_any_order(self):
        for some in itertools.permutations(ENTRIES):
            self.assertEqual(make_table(some), TABLE)
            self.assertEqual(make_table(list(some)), TABLE)
        self.assertEqual(make_table(()), ())
        self.assertEqual(make_table([]), ())

    def test_ascending_by_path_and_name(self):
        table = (
            ("hide", ("a",)), ("hide", ("a", "b")), ("hide", ("aa",)), ("drop", (), "b"), ("set", (), "c", 1),
            ("set", ("a",), "a", 1), ("drop", ("a",), "b"), ("set", ("a", "a"), "a", 1), ("put", ("a",), EMPTY),
        )
        self.assertEqual(make_table(table[::-1]), table)
        self.assertEqual(make_table(table), table)

    def test_the_first_that_is_no_entry(self):
        for value in NO_ENTRIES:
            for at in range(4):
                entries = [*ENTRIES[:at], value, *ENTRIES[at:], None]
                self.assertEqual(refused(self, BadEntry, make_table, entries), {"index": at})
        self.assertEqual(refused(self, BadEntry, make_table, [SET, deep(900, list)]), {"index": 1})

    def test_no_sequence_of_entries(self):
        for value in (None, 0, True, "set", ""):
            self.assertEqual(refused(self, BadEntry, make_table, value), {"index": 0})

    def test_a_key_twice(self):
        for one, other in itertools.product((SET, ("set", ("a",), "x", 2), ("drop", ("a",), "x")), repeat=2):
            error = refused(self, TwoEntries, make_table, [one, PUT, other])
            self.assertEqual(error, {"key": ("prop", ("a",), "x")})
        self.assertEqual(refused(self, TwoEntries, make_table, [lists(PUT), PUT]), {"key": ("put", ("a",))})
        self.assertEqual(refused(self, TwoEntries, make_table, [HIDE, list(HIDE)]), {"key": HIDE})

    def test_the_first_key_that_comes_again(self):
        entries = [SET, DROP, HIDE, HIDE, DROP, SET]
        self.assertEqual(refused(self, TwoEntries, make_table, entries), {"key": ("hide", ("b", "c"))})
        entries = [HIDE, SET, DROP, SET, HIDE]
        self.assertEqual(refused(self, TwoEntries, make_table, entries), {"key": ("prop", ("a",), "x")})

    def test_no_entry_ahead_of_a_key_twice(self):
        self.assertEqual(refused(self, BadEntry, make_table, [SET, SET, 0]), {"index": 2})

    def test_hide_and_put_at_one_path(self):
        entries = [("put", ("a",), EMPTY), ("set", ("a",), "x", 1), ("hide", ("a",))]
        self.assertEqual(make_table(entries), (entries[2], entries[1], entries[0]))

    def test_entries_with_a_flaw(self):
        rng = seeded(13)
        for _ in range(1000):
            entries = [some_entry(rng) for _ in range(3)]
            entries[rng.randrange(3)] = value = spoiled(rng, entries[0])
            wrong = [at for at, entry in enumerate(entries) if not samples.is_entry(tuples(entry))]
            if wrong:
                self.assertEqual(refused(self, BadEntry, make_table, entries), {"index": wrong[0]}, value)


class EntryWith(unittest.TestCase):

    def test_each_key(self):
        for entry, key in zip(ENTRIES, KEYS):
            self.assertEqual(entry_with(TABLE, key), entry)
            self.assertEqual(entry_with(TABLE, key), entry)
            self.assertEqual(entry_with(ENTRIES, lists(key)), entry)
            self.assertEqual(entry_with(lists(ENTRIES), key), entry)

    def test_no_such_key(self):
        for key in (
            ("prop", (), "x"), ("prop", ("a",), "y"), ("hide", ("a",)), ("put", ("b", "c")), ("prop", (), "y", 1),
        ):
            self.assertIs(entry_with(TABLE, key), None)
        self.assertIs(entry_with((), KEYS[0]), None)

    def test_an_entry_is_no_key(self):
        for entry in (SET, DROP, PUT):
            self.assertIs(entry_with(TABLE, entry), None)

    def test_any_object(self):
        for key in (*JUNK, deep(900), deep(900, list), ("hide", deep(900))):
            self.assertIs(entry_with(TABLE, key), None)


class WithEntry(unittest.TestCase):

    def test_a_new_key(self):
        for at, entry in enumerate(TABLE):
            rest = (*TABLE[:at], *TABLE[at + 1:])
            self.assertEqual(with_entry(rest, entry), TABLE)
            self.assertEqual(with_entry(rest, entry), TABLE)
            self.assertEqual(with_entry(rest[::-1], entry), TABLE)
            self.assertEqual(with_entry(lists(rest), lists(entry)), TABLE)
        self.assertEqual(with_entry((), SET), (SET,))

    def test_in_the_place_of_the_one_with_its_key(self):
        for entry in (("set", ("a",), "x", 2), ("drop", ("a",), "x"), SET):
            self.assertEqual(with_entry(TABLE, entry), (HIDE, DROP, entry, PUT))
        self.assertEqual(with_entry(TABLE, ("put", ("a",), EMPTY)), (HIDE, DROP, SET, ("put", ("a",), EMPTY)))

    def test_no_entry(self):
        for value in (*NO_ENTRIES, deep(900), deep(900, list)):
            self.assertEqual(refused(self, BadEntry, with_entry, TABLE, value), {"index": 0})
            self.assertEqual(refused(self, BadEntry, with_entry, (), value), {"index": 0})


class WithoutEntry(unittest.TestCase):

    def test_each_key(self):
        for at, entry in enumerate(TABLE):
            rest = (*TABLE[:at], *TABLE[at + 1:])
            key = dict(zip(ENTRIES, KEYS))[entry]
            self.assertEqual(without_entry(TABLE, key), rest)
            self.assertEqual(without_entry(TABLE, key), rest)
            self.assertEqual(without_entry(lists(TABLE[::-1]), lists(key)), rest)
        self.assertEqual(without_entry((SET,), KEYS[0]), ())

    def test_no_such_key(self):
        for key in (*JUNK, SET, ("prop", (), "x"), ("put", ("b", "c"))):
            self.assertEqual(refused(self, NoKey, without_entry, TABLE, key), {"key": tuples(key)})
        error = refused(self, NoKey, without_entry, TABLE, ["hide", ["a", [1]]])
        self.assertEqual(error, {"key": ("hide", ("a", (1,)))})
        self.assertEqual(refused(self, NoKey, without_entry, TABLE, deep(900, list)), {"key": deep(900)})
        self.assertEqual(refused(self, NoKey, without_entry, (), KEYS[0]), {"key": KEYS[0]})


class WrongTable(unittest.TestCase):

    def calls(self, table):
        for entry in (SET, None):
            yield with_entry, table, entry
        for key in (KEYS[0], None, deep(900)):
            yield entry_with, table, key
            yield without_entry, table, key

    def test_no_entry_in_a_table(self):
        for value in NO_ENTRIES:
            for call in self.calls([SET, SET, value, None]):
                self.assertEqual(refused(self, BadEntry, *call), {"index": 2})

    def test_a_key_twice_in_a_table(self):
        for call in self.calls([HIDE, SET, ("drop", ["a"], "x")]):
            self.assertEqual(refused(self, TwoEntries, *call), {"key": KEYS[0]})
