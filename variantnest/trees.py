"""Trees of nodes with props."""

from variantnest.errors import BadTree, NoNode
from variantnest.shapes import as_tuples, ascends, is_pair
from variantnest.values import LONGEST_PATH, is_integer, is_link, is_name, is_path, is_value


def is_tree(value):
    """Return whether any object is a tree."""
    return is_tree_within(value, LONGEST_PATH)


def is_tree_within(value, levels):
    """Return whether any object is a tree with at most so many levels below its root.

    Counting the levels also keeps the calls from going as deep as the object does.
    """
    if levels < 0 or not is_pair(value):
        return False
    props, children = value
    if not are_props(props) or not are_rows(children):
        return False
    return all([is_tree_within(pair[1], levels - 1) for pair in children])


def are_props(pairs):
    """Return whether any object is the props of a node."""
    return are_rows(pairs) and all([is_value(pair[1]) for pair in pairs])


def are_rows(pairs):
    """Return whether any object is a tuple of pairs that begin with names, which ascend."""
    return are_named(pairs) and ascends(names_of(pairs))


def are_named(pairs):
    """Return whether any object is a tuple of pairs that begin with names."""
    if not isinstance(pairs, tuple):
        return False
    return all([is_pair(pair) and is_name(pair[0]) for pair in pairs])


def names_of(pairs):
    """Return the names with which pairs begin."""
    return [pair[0] for pair in pairs]


def make_tree(props=(), children=()):
    """Return the tree with these pairs, which may come in any order."""
    tree = (by_name(as_tuples(props)), by_name(as_tuples(children)))
    if not is_tree(tree):
        raise BadTree()
    return tree


def by_name(pairs):
    """Return named pairs in the order of their names, any other object as it is."""
    if not are_named(pairs):
        return pairs
    return tuple(sorted(pairs, key=lambda pair: pair[0]))


def checked_tree(tree):
    """Return what a caller passed as a tree in tuples; refuse what is none."""
    tree = as_tuples(tree)
    if not is_tree(tree):
        raise BadTree()
    return tree


def nodes(tree):
    """Return the paths of all nodes in ascending order."""
    return paths_in(checked_tree(tree))


def paths_in(tree):
    """Return what nodes does, for an object that is known to be a tree."""
    paths = [()]
    for name, child in tree[1]:
        paths.extend([(name, *path) for path in paths_in(child)])
    return paths


def node(tree, path):
    """Return the tree whose root is the node at a path."""
    found = node_at(checked_tree(tree), as_tuples(path))
    if found is None:
        raise NoNode(path)
    return found


def node_at(tree, path):
    """Return the node of a tree at any object, or None if that is no path of a node."""
    if not is_path(path):
        return None
    found = tree
    for name in path:
        found = child_of(found, name)
        if found is None:
            return None
    return found


def child_of(tree, name):
    """Return the child of the root with an id, or None."""
    for other, child in tree[1]:
        if other == name:
            return child
    return None


def in_order(tree, path):
    """Return the ids of the children of a node in the order in which they are shown."""
    children = node(tree, path)[1]
    ranked = sorted([(rank_of(child), name) for name, child in children])
    return [pair[1] for pair in ranked]


def rank_of(tree):
    """Return the rank by which a child stands among its siblings."""
    for name, worth in tree[0]:
        if name == "rank" and is_integer(worth):
            return worth
    return 0


def loose(tree):
    """Return the paths and names of the props that link to no node of the tree."""
    tree = checked_tree(tree)
    found = []
    for path in paths_in(tree):
        for name, worth in node_at(tree, path)[0]:
            if is_link(worth) and node_at(tree, worth[1]) is None:
                found.append((path, name))
    return found


def size(tree):
    """Return the number of the nodes and of all their props together."""
    return size_of(checked_tree(tree))


def size_of(tree):
    """Return what size does, for an object that is known to be a tree."""
    return 1 + len(tree[0]) + sum([size_of(pair[1]) for pair in tree[1]])
