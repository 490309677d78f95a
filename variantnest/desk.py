"""A desk: a library to which lines are told."""

from variantnest.errors import BadLine, BadText
from variantnest.library import Library
from variantnest.lines import count_in, key_in, path_in, value_in
from variantnest.texts import path_text, piece_text, read_piece, tree_text
from variantnest.values import is_name

# The forms of the lines: the word, and of what kinds its other parts are.
FORMS = (
    ("make", "name", "piece"), ("define", "name", "piece"), ("remove", "name"), ("rename", "name", "name"),
    ("set", "name", "path", "name", "value"), ("drop", "name", "path", "name"), ("hide", "name", "path"),
    ("put", "name", "path", "piece"), ("reset", "name", "path", "key"), ("extract", "name", "path", "name"),
    ("inline", "name", "path"), ("child", "name", "path", "name"), ("prop", "name", "path", "name", "name"),
    ("undo",), ("redo",), ("push", "name", "path", "key"), ("release", "name"), ("upgrade", "name", "path", "count"),
    ("show", "name"), ("show", "name", "count"), ("text", "name"), ("uses", "name"), ("why", "name", "path", "name"),
    ("names",), ("steps",),
)
# The deeds that answer nothing but that they are done.
PLAIN = {
    "make": "make", "define": "define", "remove": "remove", "rename": "rename_template", "reset": "reset",
    "extract": "extract", "inline": "inline", "child": "rename_child", "prop": "rename_prop",
}


class Desk:
    """A library to which lines are told."""

    def __init__(self):
        self.shelf = Library()

    def tell(self, line):
        """Do what a line says and return the answer."""
        word, *passed = read_form(line)
        if word in PLAIN:
            self.shelf.done((PLAIN[word], *passed))
            return "done"
        if word in ("set", "drop", "hide", "put"):
            name, *rest = passed
            self.shelf.done(("change", name, (word, *rest)))
            return "done"
        answer = ANSWERS[word]
        return answer(self.shelf, passed)

    def library(self):
        """Return a copy of the library."""
        return self.shelf.copy()


def read_form(line):
    """Return the word of a line and what its other parts say."""
    for form in FORMS:
        if line.split(" ")[0] == form[0]:
            values = values_in(form, line)
            if values is not None:
                return [form[0], *values]
    raise BadLine(0)


def values_in(form, line):
    """Return what the parts of a line behind its word say, if it has a form, or None."""
    # What stands at the end of such lines may have spaces of its own.
    most = len(form) - 1 if form[-1] in ("key", "piece") else -1
    parts = line.split(" ", most)
    if len(parts) != len(form):
        return None
    values = [value_of(kind, part) for kind, part in zip(form[1:], parts[1:])]
    return None if None in values else values


def value_of(kind, part):
    """Return what a part of a line of some kind says, or None."""
    if kind == "name":
        return part if is_name(part) else None
    if kind == "path":
        return path_in(part)
    if kind == "value":
        return value_in(part)
    if kind == "count":
        return count_in(part)
    return key_in(part) if kind == "key" else piece_in(part)


def piece_in(part):
    """Return the piece that the end of a line says, or None."""
    try:
        return read_piece(part)
    except BadText:
        return None


def listed(words, joint):
    """Return words joined by a joint, or a sign for none."""
    return "-" if words == [] else joint.join(words)


def key_text(key):
    """Return the text of a key."""
    return " ".join([key[0], path_text(key[1]), *key[2:]])


def answer_undo(library, passed):
    """Undo a step."""
    library.undo()
    return "done"


def answer_redo(library, passed):
    """Redo a step."""
    library.redo()
    return "done"


def answer_push(library, passed):
    """Push an entry up and tell which templates changed."""
    return listed([pair[0] for pair in library.push(*passed)], ",")


def answer_release(library, passed):
    """Make a release and tell its number."""
    return str(library.release(*passed))


def answer_upgrade(library, passed):
    """Upgrade a use and tell the keys."""
    return listed([key_text(key) for key in library.upgrade(*passed)], "; ")


def answer_show(library, passed):
    """Tell what a template or a release shows."""
    return tree_text(library.shown(*passed))


def answer_text(library, passed):
    """Tell the definition of a template."""
    return piece_text(library.definition(*passed))


def answer_uses(library, passed):
    """Tell the places of uses."""
    return listed([path_text(use[0]) for use in library.uses(*passed)], ",")


def answer_why(library, passed):
    """Tell the sources of a prop."""
    return listed([f"{row[0]} {row[3]}" for row in library.sources(*passed)], ", ")


def answer_names(library, passed):
    """Tell the names of the templates."""
    return listed(library.names(), ",")


def answer_steps(library, passed):
    """Tell the number of steps."""
    return str(len(library.history()))


# The functions that answer the other lines.
ANSWERS = {
    "undo": answer_undo, "redo": answer_redo, "push": answer_push, "release": answer_release,
    "upgrade": answer_upgrade, "show": answer_show, "text": answer_text, "uses": answer_uses, "why": answer_why,
    "names": answer_names, "steps": answer_steps,
}
