"""What definitions show, found out node by node.

Only the nodes that are asked for are built: what entries hide may be far
larger than what is shown.
"""

from variantnest.applying import Overrides, changed_props
from variantnest.errors import TooLarge
from variantnest.pieces import relinked_props
from variantnest.values import LONGEST_PATH

LARGEST_TREE = 400


class TreeView:
    """A node of a tree."""

    def __init__(self, tree):
        self.tree = tree

    def shown_props(self):
        """Return the props of the node."""
        return self.tree[0]

    def below(self):
        """Return the pairs of the ids and the views of the children."""
        return [(name, TreeView(child)) for name, child in self.tree[1]]


class NodeView:
    """A node of a definition, which stands at a path."""

    def __init__(self, showing, piece, path):
        self.showing = showing
        self.piece = piece
        self.path = path
        self.found = None

    def shown_props(self):
        """Return the props of the node."""
        return self.piece[1]

    def below(self):
        """Return the pairs of the ids and the views of the children."""
        if self.found is None:
            self.found = [(name, self.showing.view(child, (*self.path, name))) for name, child in self.piece[2]]
        return self.found


class Place:
    """A use in a definition: its path, and its entries, to be found by the nodes that they concern."""

    def __init__(self, showing, path, entries):
        self.showing = showing
        self.path = path
        self.overrides = Overrides(entries)
        self.touched = {}
        for entry in entries:
            for many in range(len(entry[1]) + 1):
                self.touched[entry[1][:many]] = True

    def view(self, base, path):
        """Return the view of a node that a use shows at a path, changed by its entries."""
        # What is shown as it is needs no view of its own: a chain of variants shares it.
        if self.path == () and path not in self.touched:
            return base
        return UseView(self, base, path)

    def put_views(self, path):
        """Return a dict of the views of what put entries put below a node, if they act."""
        row = self.overrides.puts.get(path, {})
        return {name: self.showing.view(row[name], (*self.path, *path, name)) for name in row}


class UseView:
    """A node that a use shows at a path behind its own, other than what its put entries put."""

    def __init__(self, place, base, path):
        self.place = place
        self.base = base
        self.path = path
        self.found = None

    def shown_props(self):
        """Return the props of the node."""
        props = linked(self.base.shown_props(), self.place.path)
        entries = self.place.overrides.props.get(self.path)
        return props if entries is None else changed_props(entries, props)

    def below(self):
        """Return the pairs of the ids and the views of the children."""
        if self.found is None:
            views = self.place.put_views(self.path)
            for name, child in self.base.below():
                path = (*self.path, name)
                if path not in self.place.overrides.hidden:
                    # A kept node keeps its place: the put entry of its path, if any, does not act.
                    views[name] = self.place.view(child, path)
            self.found = [(name, views[name]) for name in sorted(views)]
        return self.found


class Showing:
    """The views of what templates and releases show, while a state is made."""

    def __init__(self, state):
        self.state = state
        self.views = {}

    def used(self, name, release):
        """Return the view of what a template or a release shows."""
        if release == 0 and name not in self.state.trees:
            if name not in self.views:
                self.views[name] = self.view(self.state.pieces[name], ())
            return self.views[name]
        return TreeView(self.state.tree_of(name, release))

    def view(self, piece, path):
        """Return the view of what a piece shows at a path."""
        if piece[0] == "node":
            return NodeView(self, piece, path)
        place = Place(self, path, piece[3])
        return place.view(self.used(piece[1], piece[2]), ())


class Growth:
    """A tree that a template is to show, while it is made of views."""

    def __init__(self, name):
        self.name = name
        self.many = 0

    def grown(self, view, levels, before):
        """Return the tree of a view, with at most so many levels below its root; before is one like it, or None."""
        self.many += 1
        props = view.shown_props()
        if levels < 0 or self.many > LARGEST_TREE or has_long_link(props):
            raise TooLarge(self.name)
        old = {} if before is None else dict(before[1])
        tree = (props, tuple([(name, self.grown(child, levels - 1, old.get(name))) for name, child in view.below()]))
        # The states of a history share what is shown as it was, so that they take little room.
        return before if tree == before else tree


def linked(props, place):
    """Return the props of a used node as they are shown where the use stands."""
    if place == ():
        return props
    return relinked_props(props, lambda path: (*place, *path))


def has_long_link(props):
    """Return whether some prop is a link to what is too long for a path."""
    return any([isinstance(worth, tuple) and len(worth[1]) > LONGEST_PATH for _, worth in props])


def tree_shown(showing, name, before):
    """Return the tree that a template shows, which showed another one before, or None; refuse one too large."""
    return Growth(name).grown(showing.used(name, 0), LONGEST_PATH, before)
