"""Tables between trees, what tables cost, and trees from which they cost least."""

from variantnest.errors import BadTree
from variantnest.shapes import as_tuples
from variantnest.tables import keyed, make_table, ordered
from variantnest.trees import checked_tree, is_tree, size_of


def between(one, other):
    """Return the table that makes the second of two trees of the first."""
    return table_between(checked_tree(one), checked_tree(other))


def table_between(one, other):
    """Return what between does, for objects that are known to be trees."""
    return ordered(keyed(node_entries((), one, other)))


def node_entries(path, one, other):
    """Return the entries that make one tree of another where both stand at a path."""
    entries = prop_entries(path, dict(one[0]), dict(other[0]))
    first = dict(one[1])
    second = dict(other[1])
    for name in first:
        if name not in second:
            entries.append(("hide", (*path, name)))
    for name in second:
        below = (*path, name)
        if name in first:
            entries.extend(node_entries(below, first[name], second[name]))
        else:
            entries.append(("put", below, second[name]))
    return entries


def prop_entries(path, first, second):
    """Return the entries that make some props of others, both in dicts, at a path."""
    drops = [("drop", path, name) for name in first if name not in second]
    sets = [("set", path, name, second[name]) for name in second if first.get(name) != second[name]]
    return [*drops, *sets]


def cost(table):
    """Return the number of the entries of a table, but for a put entry the size of its tree."""
    return sum([size_of(entry[2]) if entry[0] == "put" else 1 for entry in make_table(table)])


def common(trees):
    """Return a tree from which the tables to some trees cost least together, and this cost."""
    trees = as_tuples(trees)
    if not isinstance(trees, tuple) or trees == () or not all([is_tree(tree) for tree in trees]):
        raise BadTree()
    return nearest(trees)


def nearest(trees):
    """Return what common does, for trees that all have a node where the tree is to have one.

    Each child is decided for itself: with it, the trees that have none must hide
    it, and the others go on from the best one; without it, they must put theirs.
    """
    props, total = nearest_props(trees)
    children = []
    found = children_of(trees)
    for name in sorted(found):
        child, paid = nearest(found[name])
        paid += len(trees) - len(found[name])
        unshared = sum([size_of(tree) for tree in found[name]])
        if paid < unshared:
            children.append((name, child))
        total += min(paid, unshared)
    return ((props, tuple(children)), total)


def children_of(trees):
    """Return a dict of the children of some trees, a list under each id."""
    found = {}
    for tree in trees:
        for name, child in tree[1]:
            found.setdefault(name, []).append(child)
    return found


def nearest_props(trees):
    """Return the props from which the entries to those of some trees are fewest, and their number."""
    props = []
    total = 0
    counts = counts_of(trees)
    for name in sorted(counts):
        row = counts[name]
        worth = max(row, key=lambda some: row[some])
        missing = len(trees) - sum(row.values())
        if row[worth] > missing:
            props.append((name, worth))
        total += len(trees) - max(row[worth], missing)
    return (tuple(props), total)


def counts_of(trees):
    """Return a dict that tells under each name how many of some trees give it which value."""
    counts = {}
    for tree in trees:
        for name, worth in tree[0]:
            row = counts.setdefault(name, {})
            row[worth] = row.get(worth, 0) + 1
    return counts
