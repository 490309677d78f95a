"""What tables make of trees."""

from variantnest.tables import is_covered, make_table
from variantnest.trees import checked_tree, node_at


class Overrides:
    """The entries of a table, to be found by the node that they concern."""

    def __init__(self, table):
        self.hidden = {}
        self.props = {}
        self.puts = {}
        for entry in table:
            self.take(entry)

    def take(self, entry):
        """Put an entry where it is found: a put entry at the node above its path."""
        path = entry[1]
        if entry[0] == "hide":
            self.hidden[path] = True
        elif entry[0] == "put":
            row = self.puts.setdefault(path[:-1], {})
            row[path[-1]] = entry[2]
        else:
            self.props.setdefault(path, []).append(entry)

    def put_at(self, path):
        """Return the tree of the put entry with a path, or None."""
        return self.puts.get(path[:-1], {}).get(path[-1])


def applied(table, tree):
    """Return what a table makes of a tree."""
    overrides = Overrides(make_table(table))
    return changed_node(overrides, checked_tree(tree), ())


def changed_node(overrides, tree, path):
    """Return what becomes of a tree whose root is a kept node at a path."""
    children = dict(overrides.puts.get(path, {}))
    for name, child in tree[1]:
        below = (*path, name)
        if below not in overrides.hidden:
            # A kept node keeps its place: the put entry of its path, if any, does not act.
            children[name] = changed_node(overrides, child, below)
    return (changed_props(overrides.props.get(path, []), tree[0]), tuple(sorted(children.items())))


def changed_props(entries, props):
    """Return what the set and drop entries of a kept node make of its props."""
    rows = dict(props)
    for entry in entries:
        if entry[0] == "set":
            rows[entry[2]] = entry[3]
        else:
            rows.pop(entry[2], None)
    return tuple(sorted(rows.items()))


def entry_words(table, tree):
    """Return each entry of a table with the word for what it does to a tree."""
    table = make_table(table)
    tree = checked_tree(tree)
    overrides = Overrides(table)
    return [(entry, word_of(overrides, entry, tree)) for entry in table]


def word_of(overrides, entry, tree):
    """Return the word for what one entry among others does to a tree."""
    if does_rest(overrides, entry, tree):
        return "rests"
    return "same" if is_idle(overrides, entry, tree) else "acts"


def does_rest(overrides, entry, tree):
    """Return whether a tree has nothing for an entry to act on."""
    path = entry[1]
    if is_covered(entry, overrides.hidden):
        return True
    if entry[0] != "put":
        return node_at(tree, path) is None
    is_kept = path not in overrides.hidden and node_at(tree, path) is not None
    return is_kept or node_at(tree, path[:-1]) is None


def is_idle(overrides, entry, tree):
    """Return whether a tree becomes the same without an entry, which does not rest."""
    path = entry[1]
    if entry[0] == "put":
        return False
    found = node_at(tree, path)
    if entry[0] != "hide":
        return changed_props([entry], found[0]) == found[0]
    put = overrides.put_at(path)
    # Without its hide entry the node is kept: no other one concerns it.
    return put is not None and put == changed_node(overrides, found, path)
