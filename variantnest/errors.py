"""The errors that the package raises."""

from variantnest.shapes import as_tuples


class VariantError(ValueError):
    """Every error of the package is one of these."""


class BadTree(VariantError):
    """What was passed as a tree is none."""

    def __init__(self):
        VariantError.__init__(self, "this is no tree")


class NoNode(VariantError):
    """There is no such node at a path."""

    def __init__(self, path):
        VariantError.__init__(self, "there is no such node at this path")
        self.path = as_tuples(path)


class BadEntry(VariantError):
    """What was passed as an entry is none."""

    def __init__(self, index):
        VariantError.__init__(self, "this is no entry")
        self.index = as_tuples(index)


class TwoEntries(VariantError):
    """Two entries of a table have one key."""

    def __init__(self, key):
        VariantError.__init__(self, "two entries have this key")
        self.key = as_tuples(key)


class NoKey(VariantError):
    """No entry of a table has a key."""

    def __init__(self, key):
        VariantError.__init__(self, "no entry has this key")
        self.key = as_tuples(key)


class UnknownTemplate(VariantError):
    """There is no template with a name."""

    def __init__(self, name):
        VariantError.__init__(self, "there is no template with this name")
        self.name = as_tuples(name)


class UnknownRelease(VariantError):
    """A template has no release with a number."""

    def __init__(self, name, number):
        VariantError.__init__(self, "the template has no such release")
        self.name = as_tuples(name)
        self.number = as_tuples(number)


class Ring(VariantError):
    """Templates would lead back to themselves by live uses."""

    def __init__(self, circle):
        VariantError.__init__(self, "templates would use one another in a ring")
        self.circle = as_tuples(circle)


class TooLarge(VariantError):
    """A template would show too much, or too deep."""

    def __init__(self, name):
        VariantError.__init__(self, "the template would show too much")
        self.name = as_tuples(name)


class BadName(VariantError):
    """What was passed as a name is none."""

    def __init__(self, name):
        VariantError.__init__(self, "this is no name")
        self.name = as_tuples(name)


class NameInUse(VariantError):
    """A template has the name already."""

    def __init__(self, name):
        VariantError.__init__(self, "a template has this name already")
        self.name = as_tuples(name)


class BadPiece(VariantError):
    """What was passed as a piece is none."""

    def __init__(self):
        VariantError.__init__(self, "this is no piece")


class InUse(VariantError):
    """Another template uses the one to be removed."""

    def __init__(self, user):
        VariantError.__init__(self, "another template uses this one")
        self.user = as_tuples(user)


class IdInUse(VariantError):
    """There is a child at a path already."""

    def __init__(self, path):
        VariantError.__init__(self, "there is a child at this path already")
        self.path = as_tuples(path)


class NoUse(VariantError):
    """There is no use at a place."""

    def __init__(self, place):
        VariantError.__init__(self, "there is no use at this place")
        self.place = as_tuples(place)


class Frozen(VariantError):
    """A use is of a release, which stays as it is."""

    def __init__(self, name, number):
        VariantError.__init__(self, "releases stay as they are")
        self.name = as_tuples(name)
        self.number = as_tuples(number)


class Rests(VariantError):
    """An entry does nothing where it stands."""

    def __init__(self, key):
        VariantError.__init__(self, "the entry with this key rests")
        self.key = as_tuples(key)


class Outside(VariantError):
    """A link leads out of what is to be moved."""

    def __init__(self, path):
        VariantError.__init__(self, "a link leads out of what is moved")
        self.path = as_tuples(path)


class Clash(VariantError):
    """An entry is in the way of a renaming."""

    def __init__(self, name, key):
        VariantError.__init__(self, "an entry is in the way")
        self.name = as_tuples(name)
        self.key = as_tuples(key)


class NotPlain(VariantError):
    """The definition of a template has uses."""

    def __init__(self, name):
        VariantError.__init__(self, "the template has uses")
        self.name = as_tuples(name)


class NoProp(VariantError):
    """A node does not have a prop."""

    def __init__(self, prop):
        VariantError.__init__(self, "the node does not have this prop")
        self.prop = as_tuples(prop)


class PropInUse(VariantError):
    """A node has a prop already."""

    def __init__(self, prop):
        VariantError.__init__(self, "the node has this prop already")
        self.prop = as_tuples(prop)


class Older(VariantError):
    """A use cannot go back to an earlier release."""

    def __init__(self, number):
        VariantError.__init__(self, "this release is an earlier one")
        self.number = as_tuples(number)


class NothingToUndo(VariantError):
    """There is no step to take back."""

    def __init__(self):
        VariantError.__init__(self, "there is nothing to undo")


class NothingToRedo(VariantError):
    """There is no step to do again."""

    def __init__(self):
        VariantError.__init__(self, "there is nothing to redo")


class BadStep(VariantError):
    """A step is none, or is refused."""

    def __init__(self, index):
        VariantError.__init__(self, "this step cannot be done")
        self.index = as_tuples(index)


class NoStep(VariantError):
    """There is no step with an index."""

    def __init__(self, index):
        VariantError.__init__(self, "there is no step with this index")
        self.index = as_tuples(index)


class Broken(VariantError):
    """A later step cannot be done without the one left out."""

    def __init__(self, index):
        VariantError.__init__(self, "a later step is refused")
        self.index = as_tuples(index)


class BadText(VariantError):
    """A text has not the right form."""

    def __init__(self, at):
        VariantError.__init__(self, "the text has not the right form")
        self.at = as_tuples(at)


class BadLine(VariantError):
    """A line has not the right form."""

    def __init__(self, index):
        VariantError.__init__(self, "the line has not the right form")
        self.index = as_tuples(index)
