"""Pieces: definitions of trees and of their parts."""

from variantnest.shapes import ascends, begins
from variantnest.tables import entry_key, is_entry
from variantnest.trees import are_props, are_rows
from variantnest.values import LONGEST_PATH, is_integer, is_link, is_name, is_path


def is_piece(value):
    """Return whether any object is a piece all of whose paths from its root are paths."""
    return is_piece_within(value, LONGEST_PATH)


def is_piece_within(value, levels):
    """Return whether any object is a piece whose paths have at most so many names.

    Counting the levels also keeps the calls from going as deep as the object does.
    """
    if levels < 0 or not isinstance(value, tuple):
        return False
    if len(value) == 3 and value[0] == "node":
        if not are_props(value[1]) or not are_rows(value[2]):
            return False
        return all([is_piece_within(pair[1], levels - 1) for pair in value[2]])
    if len(value) != 4 or value[0] != "use":
        return False
    return is_name(value[1]) and is_release(value[2]) and are_overrides(value[3], levels)


def is_release(value):
    """Return whether any object may be the number of a release, or 0."""
    return is_integer(value) and value >= 0


def are_overrides(entries, levels):
    """Return whether any object is the entries of a use whose paths have at most so many names."""
    if not isinstance(entries, tuple):
        return False
    if not all([is_override_within(entry, levels) for entry in entries]):
        return False
    return ascends([entry_key(entry) for entry in entries])


def is_override(value):
    """Return whether any object is an entry with a piece in the place of a tree."""
    return is_override_within(value, LONGEST_PATH)


def is_override_within(value, levels):
    """Return whether any object is an entry with a piece whose paths have at most so many names."""
    if isinstance(value, tuple) and len(value) == 3 and value[0] == "put":
        if not is_path(value[1]) or value[1] == ():
            return False
        return is_piece_within(value[2], levels - len(value[1]))
    return is_entry(value) and len(value[1]) <= levels


def piece_of(tree):
    """Return the piece that shows a tree at the root."""
    return ("node", tree[0], tuple([(name, piece_of(child)) for name, child in tree[1]]))


def override_of(entry):
    """Return an entry with a piece in the place of the tree, if it has one."""
    if entry[0] == "put":
        return ("put", entry[1], piece_of(entry[2]))
    return entry


def uses_in(piece):
    """Return the uses in a piece in the order in which they are written."""
    if piece[0] == "node":
        parts = [child for _, child in piece[2]]
        found = []
    else:
        parts = [entry[2] for entry in piece[3] if entry[0] == "put"]
        found = [piece]
    for part in parts:
        found.extend(uses_in(part))
    return found


def links_in(piece):
    """Return the paths of the links in a piece in the order in which they are written."""
    found = []
    if piece[0] == "node":
        found.extend([worth[1] for _, worth in piece[1] if is_link(worth)])
        for _, child in piece[2]:
            found.extend(links_in(child))
    else:
        for entry in piece[3]:
            found.extend(links_of(entry))
    return found


def links_of(entry):
    """Return the paths of the links in an entry with a piece in the order in which they are written."""
    if entry[0] == "put":
        return links_in(entry[2])
    return [entry[3][1]] if entry[0] == "set" and is_link(entry[3]) else []


def relinked(piece, change):
    """Return a piece with what a function makes of the path of each link."""
    if piece[0] == "node":
        props = relinked_props(piece[1], change)
        return ("node", props, tuple([(name, relinked(child, change)) for name, child in piece[2]]))
    return (*piece[:3], tuple([relinked_entry(entry, change) for entry in piece[3]]))


def relinked_props(props, change):
    """Return props with what a function makes of the path of each link."""
    return tuple([(name, relinked_value(worth, change)) for name, worth in props])


def relinked_value(worth, change):
    """Return a value with what a function makes of its path, if it is a link."""
    # Paths of links that are not shown may be too long for a link of the document.
    return ("link", change(worth[1])) if isinstance(worth, tuple) else worth


def relinked_entry(entry, change):
    """Return an entry with a piece, with what a function makes of the path of each link."""
    if entry[0] == "put":
        return (*entry[:2], relinked(entry[2], change))
    if entry[0] == "set":
        return (*entry[:3], relinked_value(entry[3], change))
    return entry


def part_at(piece, path):
    """Return the node or use that is reached through nodes alone at any object, or None."""
    if not is_path(path):
        return None
    for name in path:
        piece = dict(piece[2]).get(name) if piece[0] == "node" else None
        if piece is None:
            return None
    return piece


def own_node(piece, path):
    """Return the own node at any object, or None."""
    part = part_at(piece, path)
    return part if part is not None and part[0] == "node" else None


def use_at(piece, place):
    """Return the use that has any object as its place, or None."""
    part = part_at(piece, place)
    return part if part is not None and part[0] == "use" else None


def with_part(piece, path, part):
    """Return a piece with another part at a path that leads to one through nodes alone."""
    if path == ():
        return part
    children = dict(piece[2])
    return with_child(piece, path[0], with_part(children[path[0]], path[1:], part))


def with_child(piece, name, child):
    """Return a node with a child under an id, or without the one it has, for None."""
    children = dict(piece[2])
    if child is None:
        children.pop(name, None)
    else:
        children[name] = child
    return (*piece[:2], tuple([(some, children[some]) for some in sorted(children)]))


def placed_uses(piece, place):
    """Return the uses that have places with them, for a piece that stands at a place itself."""
    if piece[0] == "use":
        return [(place, *piece[1:])]
    found = []
    for name, child in piece[2]:
        found.extend(placed_uses(child, (*place, name)))
    return found


def shortened(entry, many):
    """Return an entry without so many names at the beginning of its path."""
    return (entry[0], entry[1][many:], *entry[2:])


def covered_by(puts, path):
    """Return whether a path is one of those in a dict or below one."""
    return any([start in puts for start in [path[:many] for many in range(len(path) + 1)]])


def first_outside(paths, start):
    """Return the first of some paths that does not begin with another one, or None."""
    for path in paths:
        if not begins(path, start):
            return path
    return None
