"""Libraries and deeds made by a fixed rule."""

from tests.plain import all_uses, own_paths, part
from tests.samples import JUNK, key_of, paths_of

IDS = ("a", "b", "ab")
PROPS = ("x", "y")
NAMES = ("t", "u", "v", "w", "p", "q")


def some_link(rng, ahead=()):
    return ("link", (*ahead, *[rng.choice(IDS) for _ in range(rng.randint(0, 2))]))


def some_worth(rng, at):
    return rng.choice((0, 1, 2, "on", some_link(rng), some_link(rng, at[:4])))


def some_props(rng, at):
    names = rng.sample(PROPS, rng.randint(0, 2))
    return tuple((name, some_worth(rng, at)) for name in sorted(names))


def some_node(rng, library, at, levels):
    children = rng.sample(IDS, rng.randint(0, 2)) if levels else []
    rows = [(name, some_piece(rng, library, (*at, name), levels - 1)) for name in sorted(children)]
    return ("node", some_props(rng, at), tuple(rows))


def some_piece(rng, library, at=(), levels=2):
    names = library.names()
    if not names or rng.random() < 0.5:
        return some_node(rng, library, at, levels)
    name = rng.choice(names)
    release = rng.randint(0, library.releases(name)) if rng.random() < 0.4 else 0
    tree = library.shown(name, release)
    rows = {}
    for _ in range(rng.choice((0, 1, 2, 4)) if levels or rng.random() < 0.5 else 0):
        entry = some_override(rng, library, at, sorted(paths_of(tree)), levels - 1)
        rows[key_of(entry)] = entry
    return ("use", name, release, tuple(rows[key] for key in sorted(rows)))


def some_override(rng, library, at, paths, levels=1):
    """An entry that often concerns one of some nodes."""
    path = rng.choice(paths)
    if rng.random() < 0.15:
        path = tuple(rng.choice(IDS) for _ in range(rng.randint(0, 2)))
    word = rng.choice(("set", "set", "drop", "hide", "put", "put"))
    if word == "set":
        return ("set", path, rng.choice(PROPS), some_worth(rng, at + path))
    if word == "drop":
        return ("drop", path, rng.choice(PROPS))
    if word == "put" and rng.random() < 0.7 or not path:
        path = (*path, rng.choice(IDS))
    if word == "put":
        return ("put", path, some_piece(rng, library, at + path, max(levels, 0)))
    return ("hide", path)


ALL = (
    "make", "define", "remove", "rename_template", "change", "change", "change", "reset", "push", "push", "push",
    "extract", "inline", "share", "rename_child", "rename_child", "rename_child", "rename_prop", "rename_prop",
    "release", "upgrade", "upgrade",
)
# Deeds that leave the uses as they are, for the most part.
KEEPING = (
    "make", "make", "change", "change", "change", "push", "reset", "extract", "rename_child", "rename_child",
    "rename_child", "rename_child", "rename_prop", "rename_prop", "rename_prop", "release", "release", "upgrade",
    "upgrade", "upgrade",
)


def some_step(rng, library, words=ALL):
    """A step that is often carried out."""
    names = library.names()
    free = [name for name in NAMES if name not in names] or list(NAMES)
    if len(names) < 3:
        return ("make", rng.choice(free), some_piece(rng, library))
    word = rng.choice(words)
    fit = names
    if word in ("push", "reset", "upgrade", "inline"):
        fit = [name for name in names if library.uses(name)] or names
    if word in ("rename_child", "rename_prop", "extract"):
        fit = [name for name in names if len(own_paths(library.definition(name))) > 1] or names
    name = rng.choice(fit)
    step = made_step(rng, library, word, name, rng.choice(free))
    return spoiled(rng, step) if rng.random() < 0.03 else step


def made_step(rng, library, word, name, free):
    piece = library.definition(name)
    paths = sorted(paths_of(library.shown(name)))
    if word == "make":
        return (word, free, some_piece(rng, library))
    if word == "define":
        return (word, name, some_piece(rng, library))
    if word in ("remove", "release"):
        return (word, name)
    if word == "rename_template":
        return (word, name, free)
    if word == "change":
        return (word, name, some_override(rng, library, (), paths))
    if word == "share":
        return (word, tuple(rng.choice(library.names()) for _ in range(rng.randint(1, 3))), free)
    own = own_paths(piece)
    if word == "extract":
        return (word, name, rng.choice(own or [()]), free)
    if word == "rename_child":
        return (word, name, rng.choice(own[1:] or own or [()]), rng.choice(("a", "b", "ab", "n", "m")))
    if word == "rename_prop":
        path = rng.choice(own or [()])
        found = part(piece, path)
        return (word, name, path, rng.choice([row[0] for row in found[1]] or ["x"]), rng.choice(("x", "y", "z")))
    places = library.uses(name)
    if not places:
        return (word, name, rng.choice(paths), "x") if word in ("push", "reset") else ("inline", name, ())
    place, used, release, entries = rng.choice(places)
    if word == "inline":
        return (word, name, place)
    if word == "upgrade":
        return (word, name, place, rng.randint(0, library.releases(used)))
    return (word, name, place, key_of(rng.choice(entries)) if entries else ("hide", ("a",)))


def spoiled(rng, step):
    at = rng.randrange(1, len(step))
    return (*step[:at], rng.choice(JUNK), *step[at + 1:])


def uses_of(library, name):
    return all_uses(library.definition(name))
