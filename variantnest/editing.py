"""Changes of what is shown, written into a definition."""

from variantnest.applying import Overrides, changed_props, does_rest
from variantnest.pieces import shortened, with_child
from variantnest.shapes import begins
from variantnest.showing import linked
from variantnest.tables import entry_key, keyed, ordered
from variantnest.trees import node_at


def written(state, piece, place, entry):
    """Return a piece, which stands at a place, with an entry carried out on what it shows.

    The path of the entry counts from the root of the piece, those of its links
    from the root of the definition.
    """
    if piece[0] == "use":
        return written_use(state, piece, place, entry)
    path = entry[1]
    if concerned_path(entry) == ():
        return edited_node(piece, entry)
    child = dict(piece[2])[path[0]]
    return with_child(piece, path[0], written(state, child, (*place, path[0]), shortened(entry, 1)))


def concerned_path(entry):
    """Return the path of the node that an entry concerns: the one above a child that it hides or puts."""
    return entry[1][:-1] if entry[0] in ("hide", "put") else entry[1]


def edited_node(piece, entry):
    """Return a node with an entry carried out on its own props and children."""
    if entry[0] == "hide":
        return with_child(piece, entry[1][0], None)
    if entry[0] == "put":
        return with_child(piece, entry[1][0], entry[2])
    return ("node", changed_props([entry], piece[1]), piece[2])


def written_use(state, piece, place, entry):
    """Return what written does, for a use: in what it puts, or in its table."""
    tree = state.tree_of(piece[1], piece[2])
    rows = keyed(piece[3])
    put = acting_put(piece[3], tree, entry[1])
    if put is None:
        override(rows, entry, linked_props_at(tree, entry[1], place))
    elif entry[0] == "hide" and entry[1] == put[1]:
        rows.pop(entry_key(put))
    else:
        below = written(state, put[2], (*place, *put[1]), shortened(entry, len(put[1])))
        rows[entry_key(put)] = ("put", put[1], below)
    return (*piece[:3], ordered(rows))


def acting_put(entries, tree, path):
    """Return the put entry that acts on a tree at a path or above it, or None: there is one at most."""
    overrides = Overrides(entries)
    for entry in entries:
        if entry[0] == "put" and begins(path, entry[1]) and not does_rest(overrides, entry, tree):
            return entry
    return None


def linked_props_at(tree, path, place):
    """Return the props that a use at a place finds at a path of a tree, as it shows them."""
    found = node_at(tree, path)
    return {} if found is None else dict(linked(found[0], place))


def override(rows, entry, props):
    """Put an entry among those of a use, which finds a node with some props there."""
    key = entry_key(entry)
    rows.pop(key, None)
    if entry[0] == "hide":
        rows.pop(("put", entry[1]), None)
    if entry[0] == "set" and props.get(entry[2]) == entry[3]:
        return
    if entry[0] == "drop" and entry[2] not in props:
        return
    rows[key] = entry
