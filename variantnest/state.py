"""The state of a library: what its templates are and show, and what must hold of them."""

from variantnest.between import table_between
from variantnest.errors import Ring, UnknownRelease, UnknownTemplate
from variantnest.pieces import uses_in
from variantnest.showing import Showing, tree_shown


class State:
    """The templates of a library. A state that a library has is never changed, but replaced."""

    def __init__(self):
        self.pieces = {}
        # For each template, pairs of the length that the log had and the tree that was shown.
        self.frozen = {}
        self.logs = {}
        # What the templates show, and the names of those that they have live uses of.
        self.trees = {}
        self.lives = {}

    def twin(self):
        """Return another state with the same templates."""
        other = State()
        other.pieces = dict(self.pieces)
        other.frozen = dict(self.frozen)
        other.logs = dict(self.logs)
        other.trees = dict(self.trees)
        other.lives = dict(self.lives)
        return other

    def begin(self, name, piece):
        """Add a template."""
        self.pieces[name] = piece
        self.frozen[name] = ()
        self.logs[name] = ()

    def leave(self, name):
        """Take a template out."""
        for rows in (self.pieces, self.frozen, self.logs, self.trees, self.lives):
            rows.pop(name, None)

    def tree_of(self, name, release):
        """Return what a template or one of its releases shows."""
        return self.trees[name] if release == 0 else self.frozen[name][release - 1][1]

    def refuse_unknown(self, uses):
        """Refuse the first use whose template or release there is not."""
        for use in uses:
            if use[1] not in self.pieces:
                raise UnknownTemplate(use[1])
            if use[2] > len(self.frozen[use[1]]):
                raise UnknownRelease(use[1], use[2])

    def settle(self, before):
        """Find out what the templates show behind a change of what they were; refuse rings and sizes."""
        concerned = {name: True for name in self.pieces if self.pieces[name] != before.pieces.get(name)}
        for name in concerned:
            self.lives[name] = live_names(self.pieces[name])
        circle = circle_in(self.lives)
        if circle is not None:
            raise Ring(circle)
        for name in used_first(self.lives):
            if any([used in concerned for used in self.lives[name]]):
                concerned[name] = True
        for name in concerned:
            self.trees.pop(name, None)
        showing = Showing(self)
        # Each tree stays away from the state until all are made, so that the views agree.
        self.trees.update({name: tree_shown(showing, name, before.trees.get(name)) for name in sorted(concerned)})


def live_names(piece):
    """Return the names of the templates of which a piece has live uses."""
    return tuple(sorted(set([use[1] for use in uses_in(piece) if use[2] == 0])))


def used_first(lives):
    """Return names in an order in which each one stands behind those that it needs, but for rings."""
    order = []
    rest = sorted(lives)
    while rest != []:
        free = [name for name in rest if not any([used in rest for used in lives[name]])]
        if free == []:
            break
        order.extend(free)
        rest = [name for name in rest if name not in free]
    return order


def circle_in(lives):
    """Return names each of which needs the next one, and the last one the first one, or None."""
    order = used_first(lives)
    rest = [name for name in sorted(lives) if name not in order]
    if rest == []:
        return None
    # Each of these needs another one of them, so this way comes back to a name at last.
    way = [rest[0]]
    while True:
        need = [used for used in lives[way[-1]] if used in rest][0]
        if need in way:
            return tuple(way[way.index(need):])
        way.append(need)


def differing(one, other):
    """Return the names of the templates that show different trees in two states, with the tables between."""
    names = [name for name in sorted(one.trees) if name in other.trees]
    return [
        (name, table_between(one.trees[name], other.trees[name]))
        for name in names if one.trees[name] != other.trees[name]
    ]


def same_state(one, other):
    """Return whether two states have the same templates with the same releases and logs."""
    return one.pieces == other.pieces and one.frozen == other.frozen and one.logs == other.logs
