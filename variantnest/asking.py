"""What gives a shown node its props, and where templates are shown."""

from variantnest.carrying import acting_paths, marked, shown_uses
from variantnest.editing import acting_put, linked_props_at
from variantnest.pieces import covered_by, relinked_value
from variantnest.state import used_first
from variantnest.tables import keyed


class Trail:
    """The way to a prop of a shown node, down through one definition after another."""

    def __init__(self, state, prop):
        self.state = state
        self.prop = prop
        self.found = []

    def enter(self, name, path, ahead):
        """Go down in a template, which is shown at some path ahead."""
        piece = self.state.pieces[name]
        place, piece, path = down((), piece, path)
        first = place if piece[0] == "use" else ()
        while piece[0] == "use":
            tree = self.state.tree_of(piece[1], piece[2])
            put = acting_put(piece[3], tree, path)
            if put is None:
                self.take_entry(name, first, piece[3], path, ahead)
                self.go_on(piece, path, (*ahead, *place))
                return
            place, piece, path = down((*place, *put[1]), put[2], path[len(put[1]):])
        self.take(name, 0, first, "own", dict(piece[1]), ahead)

    def go_on(self, use, path, ahead):
        """Go on in what is used."""
        if use[2] == 0:
            self.enter(use[1], path, ahead)
        else:
            tree = self.state.tree_of(use[1], use[2])
            self.take(use[1], use[2], (), "release", linked_props_at(tree, path, ()), ahead)

    def take_entry(self, name, place, entries, path, ahead):
        """Note what the entries of a use do to the prop."""
        entry = keyed(entries).get(("prop", path, self.prop))
        if entry is not None and entry[0] == "set":
            self.take(name, 0, place, "set", {self.prop: entry[3]}, ahead)
        elif entry is not None:
            self.found.append((name, 0, place, "drop", None))

    def take(self, name, release, place, word, props, ahead):
        """Note the prop, if some props have it."""
        if self.prop in props:
            worth = relinked_value(props[self.prop], lambda path: (*ahead, *path))
            self.found.append((name, release, place, word, worth))


def down(place, piece, path):
    """Go down by the ids of a path until a use comes or the path ends; return where one is then."""
    while piece[0] == "node" and path != ():
        place = (*place, path[0])
        piece = dict(piece[2])[path[0]]
        path = path[1:]
    return (place, piece, path)


def sources_of(state, name, path, prop):
    """Return all that gives a shown node of a template a prop, from the outermost on."""
    trail = Trail(state, prop)
    trail.enter(name, path, ())
    return trail.found


def places_of(state, name):
    """Return the names of templates with the paths at which they show a template."""
    found = {name: {(): True}}
    for user in used_first(state.lives):
        if any([used in found for used in state.lives[user]]):
            paths = []
            for place, used, entries in shown_uses(marked(state, state.pieces[user]), ()):
                paths.extend([(*place, *path) for path in staying(entries, found.get(used, {}))])
            found[user] = {path: True for path in paths}
    return sorted([(user, path) for user in found for path in found[user]])


def staying(entries, paths):
    """Return those of some paths that are not hidden, and have nothing else put in their place."""
    taken = acting_paths(entries)
    for entry in entries:
        if entry[0] == "hide":
            taken[entry[1]] = True
    return [path for path in paths if not covered_by(taken, path)]
