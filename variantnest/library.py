"""Libraries of templates."""

from variantnest.asking import places_of, sources_of
from variantnest.deeds import has_release, is_step, known_piece, outcome, users_of
from variantnest.errors import (
    BadName, BadStep, Broken, NoNode, NoStep, NothingToRedo, NothingToUndo, UnknownRelease, VariantError,
)
from variantnest.pieces import placed_uses
from variantnest.shapes import as_tuples
from variantnest.state import State, differing, same_state
from variantnest.trees import node_at
from variantnest.values import is_integer, is_name


class Library:
    """Templates that are made from one another, and the history of what was done to them."""

    def __init__(self):
        self.state = State()
        # The steps that are not undone, and the states ahead of them.
        self.steps = []
        self.earlier = []
        # The steps that are undone, the one undone last at the end, and the states behind them.
        self.undone = []
        self.later = []

    def __eq__(self, other):
        return isinstance(other, Library) and same_state(self.state, other.state)

    def known(self, name):
        """Return any object as the name of a template; refuse what is none."""
        name = as_tuples(name)
        known_piece(self.state, name)
        return name

    def names(self):
        """Return the names of the templates."""
        return sorted(self.state.pieces)

    def definition(self, name):
        """Return the definition of a template."""
        return self.state.pieces[self.known(name)]

    def shown(self, name, release=0):
        """Return the tree that a template or one of its releases shows."""
        name = self.known(name)
        if not has_release(self.state, name, release):
            raise UnknownRelease(name, release)
        return self.state.tree_of(name, release)

    def releases(self, name):
        """Return the number of the releases of a template."""
        return len(self.state.frozen[self.known(name)])

    def uses(self, name):
        """Return the uses of a definition that have places, with these."""
        return sorted(placed_uses(self.definition(name), ()), key=lambda use: use[0])

    def users(self, name):
        """Return the names of the templates that use a template or one of its releases."""
        return users_of(self.state, self.known(name))

    def log(self, name):
        """Return the renamings that concerned what a template shows."""
        return list(self.state.logs[self.known(name)])

    def sources(self, name, path, prop):
        """Return all that gives a shown node a prop, from the outermost on."""
        name = self.known(name)
        path = as_tuples(path)
        if node_at(self.state.trees[name], path) is None:
            raise NoNode(path)
        if not is_name(prop):
            raise BadName(prop)
        return sources_of(self.state, name, path, prop)

    def places(self, name):
        """Return the templates and paths at which a template is shown."""
        return places_of(self.state, self.known(name))

    def done(self, step):
        """Do a step of the right form, and return what its deed returns."""
        state, result = outcome(self.state, step)
        self.steps.append(step)
        self.earlier.append(self.state)
        self.state = state
        self.undone = []
        self.later = []
        return result

    def deed(self, word, *passed):
        """Do a deed with what was passed for it, and return what it returns."""
        return self.done((word, *as_tuples(passed)))

    def make(self, name, piece):
        """Add a template."""
        self.deed("make", name, piece)

    def define(self, name, piece):
        """Replace the definition of a template."""
        self.deed("define", name, piece)

    def remove(self, name):
        """Take a template out with its releases and its log."""
        self.deed("remove", name)

    def rename_template(self, name, new):
        """Give a template another name, also in all uses."""
        self.deed("rename_template", name, new)

    def change(self, name, entry):
        """Change a template so that it shows what an entry makes of what it showed."""
        self.deed("change", name, entry)

    def reset(self, name, place, key):
        """Take an entry out of the table of a use."""
        self.deed("reset", name, place, key)

    def push(self, name, place, key):
        """Move an entry into the template that is used; return the tables between what was shown and is."""
        return list(self.deed("push", name, place, key))

    def extract(self, name, path, new):
        """Make a new template of an own node, which becomes a use of it."""
        self.deed("extract", name, path, new)

    def inline(self, name, place):
        """Put nodes that show what a use shows in its place."""
        self.deed("inline", name, place)

    def share(self, names, new):
        """Make some templates variants of a new one."""
        self.deed("share", names, new)

    def rename_child(self, name, path, new):
        """Give an own node another id, in all of the library."""
        self.deed("rename_child", name, path, new)

    def rename_prop(self, name, path, prop, new):
        """Give a prop of an own node another name, in all of the library."""
        self.deed("rename_prop", name, path, prop, new)

    def release(self, name):
        """Make a release of a template and return its number."""
        return self.deed("release", name)

    def upgrade(self, name, place, release):
        """Move a use to another release; return the keys of its entries whose values below changed."""
        return list(self.deed("upgrade", name, place, release))

    def history(self):
        """Return the steps that are not undone."""
        return list(self.steps)

    def would(self, step):
        """Return what would be shown otherwise behind a step."""
        step = as_tuples(step)
        if not is_step(step):
            raise BadStep(0)
        return differing(self.state, outcome(self.state, step)[0])

    def undo(self):
        """Take back the last step."""
        if self.steps == []:
            raise NothingToUndo()
        self.undone.append(self.steps.pop())
        self.later.append(self.state)
        self.state = self.earlier.pop()

    def redo(self):
        """Do the step again that was undone last."""
        if self.undone == []:
            raise NothingToRedo()
        self.steps.append(self.undone.pop())
        self.earlier.append(self.state)
        self.state = self.later.pop()

    def copy(self):
        """Return an independent library in the same state, with the same history."""
        other = Library()
        other.state = self.state
        other.steps = list(self.steps)
        other.earlier = list(self.earlier)
        other.undone = list(self.undone)
        other.later = list(self.later)
        return other


def library_with(state):
    """Return the library without history that is in a state."""
    library = Library()
    library.state = state
    return library


def differences(one, other):
    """Return the templates that two libraries show otherwise, with the tables between."""
    return differing(one.state, other.state)


def replay(steps):
    """Return a library on which the steps of a sequence have been done."""
    steps = as_tuples(steps)
    # What is no sequence at all has no first wrong step to name: 0 stands for it.
    if not isinstance(steps, tuple):
        raise BadStep(0)
    library = Library()
    for index, step in enumerate(steps):
        if not is_step(step):
            raise BadStep(index)
        try:
            library.done(step)
        except VariantError:
            raise BadStep(index)
    return library


def without(library, index):
    """Return a library on which all steps of the history of one but that with an index have been done."""
    steps = library.history()
    if not is_integer(index) or not 0 <= index < len(steps):
        raise NoStep(index)
    other = library_with(library.earlier[0])
    for at, step in enumerate(steps):
        if at != index:
            try:
                other.done(step)
            except VariantError:
                raise Broken(at)
    return other
