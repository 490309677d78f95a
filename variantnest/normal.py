"""Normal tables, and trees to which two tables do different things."""

from variantnest.tables import is_covered, keyed, make_table

LETTERS = "abcdefghijklmnopqrstuvwxyz"


def normal(table):
    """Return the table without the entries that do nothing to any tree."""
    table = make_table(table)
    hidden = {entry[1]: True for entry in table if entry[0] == "hide"}
    return tuple([entry for entry in table if not is_covered(entry, hidden)])


def alike(one, other):
    """Return None if two tables make the same of every tree, else a smallest tree that parts them.

    Whatever parts them shows at one path, and there the nodes at the beginnings
    of this path alone matter. So a chain of nodes is enough, and an entry that
    only one table has shows on the chain down to its path, for a put entry down
    to the node above. Only a hide entry that the other table alone has, with a
    path on this chain, may be in the way; but then its own chain is not longer.
    """
    first = keyed(normal(one))
    second = keyed(normal(other))
    keys = [key for key in sorted(set([*first, *second])) if first.get(key) != second.get(key)]
    if keys == []:
        return None
    # The first of the least is taken: hide entries, of which none is in the way, as they come first.
    key = min(keys, key=nodes_needed)
    if key[0] == "put":
        return chain(key[1][:-1], ())
    if key[0] == "hide":
        # Where the node is kept it keeps this prop, and what is put in its place has none of this name.
        name = free_name(names_in(list(first.values()) + list(second.values())))
        return chain(key[1], ((name, 0),))
    return chain(key[1], parting_props(first.get(key), second.get(key), key[2]))


def nodes_needed(key):
    """Return the number of nodes of the chain on which an entry with a key shows."""
    return len(key[1]) if key[0] == "put" else len(key[1]) + 1


def parting_props(one, other, name):
    """Return props of which two different set and drop entries, or one and None, make different ones."""
    words = [entry[0] for entry in (one, other) if entry is not None]
    # A drop entry against none shows only where there is something to drop.
    return ((name, 0),) if words == ["drop"] else ()


def chain(path, props):
    """Return the tree that has only the nodes down to a path, the last one with props."""
    tree = (props, ())
    for name in reversed(path):
        tree = ((), ((name, tree),))
    return tree


def names_in(entries):
    """Return a dict of the names of the props that entries drop, or put at their paths."""
    names = {}
    for entry in entries:
        if entry[0] == "drop":
            names[entry[2]] = True
        elif entry[0] == "put":
            for pair in entry[2][0]:
                names[pair[0]] = True
    return names


def free_name(names):
    """Return a name that a dict does not have."""
    number = 0
    while name_of(number) in names:
        number += 1
    return name_of(number)


def name_of(number):
    """Return the name with a number, which no other number has."""
    name = LETTERS[number % 26]
    while number >= 26:
        number //= 26
        name = LETTERS[number % 26] + name
    return name
