"""Renamings, carried along through all definitions and logs of a library."""

from variantnest.applying import Overrides, does_rest
from variantnest.errors import Clash
from variantnest.pieces import covered_by, relinked_entry, relinked_props, use_at, with_part
from variantnest.state import used_first
from variantnest.tables import entry_key, keyed, ordered
from variantnest.values import LONGEST_PATH

# The name of a template that there is not, in the place of the one that an upgraded use has.
STAND_IN = ""


class ChildRenaming:
    """A renaming of a child: in each template, the paths that stand for it."""

    def __init__(self, found, row):
        self.found = found
        self.old = row[1][-1]
        self.new = row[2]

    def moved_path(self, name, path):
        """Return what a path of a template is called behind the renaming."""
        paths = self.found.get(name, {})
        return tuple([
            self.new if path[:many + 1] in paths else path[many] for many in range(len(path))
        ])

    def moved_entry(self, used, entry):
        """Return an entry of a live use of a template behind the renaming."""
        return (entry[0], self.moved_path(used, entry[1]), *entry[2:])

    def clashes(self, used, entry):
        """Return whether an entry of a live use of a template is in the way."""
        path = entry[1]
        paths = self.found.get(used, {})
        return any([
            path[many] == self.new and (*path[:many], self.old) in paths for many in range(len(path))
        ])


class PropRenaming:
    """A renaming of a prop: in each template, the paths that lead to the node."""

    def __init__(self, found, row):
        self.found = found
        self.old = row[2]
        self.new = row[3]

    def moved_path(self, name, path):
        """Return the path: the renaming of a prop changes none."""
        return path

    def moved_entry(self, used, entry):
        """Return an entry of a live use of a template behind the renaming."""
        if self.concerns(used, entry) and entry[2] == self.old:
            return (*entry[:2], self.new, *entry[3:])
        return entry

    def clashes(self, used, entry):
        """Return whether an entry of a live use of a template is in the way."""
        return self.concerns(used, entry) and entry[2] == self.new

    def concerns(self, used, entry):
        """Return whether an entry of a live use is about a prop of the node."""
        return entry[0] in ("drop", "set") and entry[1] in self.found.get(used, {})


def made_renaming(found, row):
    """Return the renaming that a row of a log tells of, with the paths that it concerns."""
    return ChildRenaming(found, row) if row[0] == "child" else PropRenaming(found, row)


class Carrier:
    """The definitions and logs of a library while renamings are carried along.

    In the definitions each put entry has a fourth part: whether it acted ahead
    of the first renaming.
    """

    def __init__(self, state):
        self.pieces = {name: marked(state, state.pieces[name]) for name in sorted(state.pieces)}
        self.lives = dict(state.lives)
        self.order = used_first(state.lives)
        self.logs = dict(state.logs)

    def stand_in(self, name, place):
        """Make the use at a place a live use of the template that there is not."""
        use = use_at(self.pieces[name], place)
        self.pieces[name] = with_part(self.pieces[name], place, ("use", STAND_IN, 0, use[3]))
        self.lives[name] = (*self.lives[name], STAND_IN)

    def carry(self, name, row):
        """Carry out a renaming of a template, in the form of a row of its log, but not in its own nodes."""
        found = self.reached(name, row)
        renaming = made_renaming(found, row)
        concerned = [user for user in self.pieces if user in found]
        for user in concerned:
            refuse_clash(renaming, user, self.pieces[user])
        for user in concerned:
            self.pieces[user] = carried(renaming, user, self.pieces[user])
        for user in list(self.logs):
            paths = sorted(found.get(user, {}), reverse=True)
            self.logs[user] = (*self.logs[user], *[(row[0], path, *row[2:]) for path in paths])

    def reached(self, name, row):
        """Return the paths that stand for a child or lead to a node, in each template that may have some."""
        found = {name: {row[1]: True}}
        for user in self.order:
            if self.uses_any(user, found):
                paths = []
                for place, used, entries in shown_uses(self.pieces[user], ()):
                    paths.extend([(*place, *path) for path in passing(entries, row, found.get(used, {}))])
                found[user] = {path: True for path in paths if len(path) <= LONGEST_PATH}
        return found

    def uses_any(self, user, found):
        """Return whether a template has a live use of one of those in a dict."""
        return any([used in found for used in self.lives[user]])


def passing(entries, row, paths):
    """Return those of some paths of a used template that its use does not put something else in the way of."""
    puts = acting_paths(entries)
    # What stands at the path of a put entry itself still stands for the child.
    return [path for path in paths if not covered_by(puts, path[:-1] if row[0] == "child" else path)]


def refuse_clash(renaming, name, piece):
    """Refuse the first entry of a definition that is in the way of a renaming."""
    for used, entry in entries_in(piece):
        if renaming.clashes(used, entry):
            raise Clash(name, entry_key(entry))


def carried(renaming, name, piece):
    """Return a piece of the definition of a template behind a renaming."""
    if piece[0] == "node":
        props = relinked_props(piece[1], lambda path: renaming.moved_path(name, path))
        return ("node", props, tuple([(some, carried(renaming, name, child)) for some, child in piece[2]]))
    entries = [carried_entry(renaming, name, entry) for entry in piece[3]]
    if piece[2] == 0:
        entries = [renaming.moved_entry(piece[1], entry) for entry in entries]
    return (*piece[:3], ordered(keyed(entries)))


def carried_entry(renaming, name, entry):
    """Return an entry with its links and its piece behind a renaming, but with its path ahead of it."""
    if entry[0] == "put":
        return (*entry[:2], carried(renaming, name, entry[2]), *entry[3:])
    return relinked_entry(entry, lambda path: renaming.moved_path(name, path))


def entries_in(piece):
    """Return the entries in a piece with the names of the templates of which these are live uses.

    They come in the order in which they are written, each one ahead of those in
    its piece; the name is None for the use of a release.
    """
    found = []
    if piece[0] == "node":
        for _, child in piece[2]:
            found.extend(entries_in(child))
    else:
        used = piece[1] if piece[2] == 0 else None
        for entry in piece[3]:
            found.append((used, entry))
            if entry[0] == "put":
                found.extend(entries_in(entry[2]))
    return found


def marked(state, piece):
    """Return a piece in which each put entry also tells whether it acts."""
    if piece[0] == "node":
        return (*piece[:2], tuple([(name, marked(state, child)) for name, child in piece[2]]))
    tree = state.tree_of(piece[1], piece[2])
    overrides = Overrides(piece[3])
    entries = []
    for entry in piece[3]:
        if entry[0] == "put":
            entry = ("put", entry[1], marked(state, entry[2]), not does_rest(overrides, entry, tree))
        entries.append(entry)
    return (*piece[:3], tuple(entries))


def unmarked(piece):
    """Return a piece without what marked added."""
    if piece[0] == "node":
        return (*piece[:2], tuple([(name, unmarked(child)) for name, child in piece[2]]))
    entries = [("put", entry[1], unmarked(entry[2])) if entry[0] == "put" else entry for entry in piece[3]]
    return (*piece[:3], tuple(entries))


def shown_uses(piece, place):
    """Return the paths, names and entries of the live uses that a marked piece at a place shows."""
    found = []
    if piece[0] == "node":
        for name, child in piece[2]:
            found.extend(shown_uses(child, (*place, name)))
        return found
    if piece[2] == 0:
        found.append((place, piece[1], piece[3]))
    for entry in piece[3]:
        if entry[0] == "put" and entry[3]:
            found.extend(shown_uses(entry[2], (*place, *entry[1])))
    return found


def acting_paths(entries):
    """Return a dict of the paths of the marked put entries that act."""
    return {entry[1]: True for entry in entries if entry[0] == "put" and entry[3]}
