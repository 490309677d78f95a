"""Tables from two tables one after another, and from two sides that changed one."""

from variantnest.applying import Overrides, changed_node
from variantnest.normal import normal
from variantnest.tables import covering_paths, entry_key, keyed, make_table, ordered


def composed(one, other):
    """Return the normal table that does what one table does and then another one."""
    first = normal(one)
    second = normal(other)
    overrides = Overrides(second)
    rows = keyed(second)
    for entry in first:
        key = entry_key(entry)
        if entry[0] != "put":
            rows.setdefault(key, entry)
        elif entry[1] not in overrides.hidden:
            # What the first table puts is all the second one finds there, so it changes that
            # instead of putting its own tree; if it hides the path, its own is what is left.
            rows[key] = (*key, changed_node(overrides, entry[2], entry[1]))
    return normal(ordered(rows))


def merged(base, one, other):
    """Return the table with what two sides changed in a table, and the conflicts."""
    before = keyed(make_table(base))
    sides = (keyed(make_table(one)), keyed(make_table(other)))
    rows = {}
    conflicts = []
    for key in sorted(set([*before, *sides[0], *sides[1]])):
        trio = (before.get(key), sides[0].get(key), sides[1].get(key))
        entry = chosen(*trio)
        if entry is not None:
            rows[key] = entry
        if is_at_odds(*trio):
            conflicts.append(("both", key))
    conflicts.extend([("under", key) for key in rows if is_under(key, rows, before, sides)])
    return (ordered(rows), sorted(conflicts))


def is_at_odds(base, one, other):
    """Return whether two sides changed an entry, each in another way."""
    return one != other and one != base and other != base


def chosen(base, one, other):
    """Return which of the entries with a key is taken; None stands for no entry."""
    if is_at_odds(base, one, other):
        return base
    return other if one == base else one


def is_under(key, rows, before, sides):
    """Return whether a new entry is covered by a new hide entry that came without it."""
    entry = rows[key]
    if before.get(key) == entry:
        return False
    for path in covering_paths(entry):
        # A hide entry is its own key.
        hide = ("hide", path)
        if hide in rows and hide not in before:
            if not any([hide in side and side.get(key) == entry for side in sides]):
                return True
    return False
