"""Entries and tables of overrides."""

from variantnest.errors import BadEntry, NoKey, TwoEntries
from variantnest.shapes import as_tuples, ascends
from variantnest.trees import is_tree_within
from variantnest.values import LONGEST_PATH, is_name, is_path, is_value


def is_entry(value):
    """Return whether any object is an entry."""
    if not isinstance(value, tuple) or len(value) < 2 or not is_path(value[1]):
        return False
    word, path, *rest = value
    if word == "hide":
        return path != () and rest == []
    if word == "put":
        return path != () and len(rest) == 1 and is_tree_within(rest[0], LONGEST_PATH - len(path))
    if word == "drop":
        return len(rest) == 1 and is_name(rest[0])
    return word == "set" and len(rest) == 2 and is_name(rest[0]) and is_value(rest[1])


def is_table(value):
    """Return whether any object is a table."""
    if not isinstance(value, tuple) or not all([is_entry(entry) for entry in value]):
        return False
    return ascends([entry_key(entry) for entry in value])


def key_of(entry):
    """Return the key of an entry."""
    return entry_key(checked_entry(entry))


def checked_entry(entry):
    """Return what a caller passed as an entry in tuples; refuse what is none."""
    entry = as_tuples(entry)
    if not is_entry(entry):
        raise BadEntry(0)
    return entry


def entry_key(entry):
    """Return what key_of does, for an object that is known to be an entry."""
    if entry[0] in ("drop", "set"):
        return ("prop", entry[1], entry[2])
    return (entry[0], entry[1])


def make_table(entries):
    """Return the table of some entries, which may come in any order."""
    entries = as_tuples(entries)
    # What is no sequence at all has no first wrong entry to name: 0 stands for it.
    if not isinstance(entries, tuple):
        raise BadEntry(0)
    for index, entry in enumerate(entries):
        if not is_entry(entry):
            raise BadEntry(index)
    rows = {}
    for entry in entries:
        key = entry_key(entry)
        if key in rows:
            raise TwoEntries(key)
        rows[key] = entry
    return ordered(rows)


def ordered(rows):
    """Return the table of the entries that a dict has under their keys."""
    return tuple([rows[key] for key in sorted(rows)])


def keyed(entries):
    """Return a dict of some entries under their keys."""
    return {entry_key(entry): entry for entry in entries}


def entry_with(table, key):
    """Return the entry of a table with a key, or None."""
    table = make_table(table)
    key = as_tuples(key)
    for entry in table:
        if entry_key(entry) == key:
            return entry
    return None


def with_entry(table, entry):
    """Return the table with an entry, which takes the place of the one with its key."""
    table = make_table(table)
    entry = checked_entry(entry)
    return make_table([*others(table, entry_key(entry)), entry])


def without_entry(table, key):
    """Return the table without the entry with a key."""
    table = make_table(table)
    rest = others(table, as_tuples(key))
    if len(rest) == len(table):
        raise NoKey(key)
    return rest


def others(table, key):
    """Return the entries of a table that do not have a key."""
    return tuple([entry for entry in table if entry_key(entry) != key])


def is_covered(entry, hidden):
    """Return whether hide entries, whose paths a dict has, leave an entry nothing to do in any tree."""
    return any([path in hidden for path in covering_paths(entry)])


def covering_paths(entry):
    """Return the paths at which a hide entry leaves an entry nothing to do in any tree."""
    path = entry[1]
    # At the path of a hide entry a put entry is what may act, and the hide entry itself stands there.
    longest = len(path) if entry[0] in ("drop", "set") else len(path) - 1
    return [path[:many] for many in range(1, longest + 1)]
