"""A plain second reading of the errors of the deeds, but for rings and sizes."""

from tests.plain import all_links, all_uses, part, walk
from tests.samples import is_entry, is_name, is_path, is_tree, key_of, kept, paths_of, tree_of


def is_piece(value, levels=8):
    if levels < 0 or not isinstance(value, tuple) or not value:
        return False
    if value[0] == "node":
        if len(value) != 3 or not isinstance(value[2], tuple):
            return False
        rows = [row for row in value[2] if isinstance(row, tuple) and len(row) == 2 and is_name(row[0])]
        names = [row[0] for row in rows]
        return (
            is_tree((value[1], ())) and len(rows) == len(value[2]) and names == sorted(set(names))
            and all(is_piece(row[1], levels - 1) for row in rows)
        )
    if value[0] != "use" or len(value) != 4 or not is_name(value[1]) or not isinstance(value[3], tuple):
        return False
    if not isinstance(value[2], int) or isinstance(value[2], bool) or value[2] < 0:
        return False
    if not all(is_override(entry, levels) for entry in value[3]):
        return False
    keys = [key_of(entry) for entry in value[3]]
    return keys == sorted(set(keys))


def is_override(value, levels=8):
    if isinstance(value, tuple) and len(value) == 3 and value[0] == "put":
        return is_path(value[1]) and value[1] != () and is_piece(value[2], levels - len(value[1]))
    return is_entry(value) and len(value[1]) <= levels


def unknown(plain, piece, extra=()):
    """[22]: the first use of which there is no template or release."""
    for use in all_uses(piece):
        if use[1] not in plain.names and use[1] not in extra:
            return ("UnknownTemplate", use[1])
        if use[2] > len(plain.frozen.get(use[1], ())):
            return ("UnknownRelease", use[1], use[2])
    return None


def is_own(plain, name, path):
    found = part(plain.pieces[name], path) if is_path(path) else None
    return found is not None and found[0] == "node"


def is_place(plain, name, place):
    found = part(plain.pieces[name], place) if is_path(place) else None
    return found is not None and found[0] == "use"


def is_number(value):
    return isinstance(value, int) and not isinstance(value, bool)


def bad_new(plain, new):
    if not is_name(new):
        return ("BadName", new)
    return ("NameInUse", new) if new in plain.names else None


def refusal(plain, step):
    """The error of a step with its fields, or None, but for those of [22] that come of a whole library."""
    word, *passed = step
    if word in ("make", "share"):
        return globals()[word](plain, *passed)
    if not is_name(passed[0]) or passed[0] not in plain.names:
        return ("UnknownTemplate", passed[0])
    return globals()[word](plain, *passed)


def make(plain, name, piece):
    found = bad_new(plain, name)
    if found:
        return found
    return unknown(plain, piece, (name,)) if is_piece(piece) else ("BadPiece",)


def define(plain, name, piece):
    return unknown(plain, piece) if is_piece(piece) else ("BadPiece",)


def remove(plain, name):
    users = [user for user in plain.names if user != name and name in [use[1] for use in all_uses(plain.pieces[user])]]
    return ("InUse", users[0]) if users else None


def rename_template(plain, name, new):
    return bad_new(plain, new)


def change(plain, name, entry):
    if not is_override(entry):
        return ("BadEntry", 0)
    rows = plain.rows(name)
    path = entry[1]
    if entry[0] != "put":
        return None if path in rows else ("NoNode", path)
    if path[:-1] not in rows:
        return ("NoNode", path)
    return ("IdInUse", path) if path in rows else unknown(plain, entry[2])


def known_key(plain, name, place, key):
    if not is_place(plain, name, place):
        return ("NoUse", place)
    keys = [key_of(entry) for entry in part(plain.pieces[name], place)[3]]
    return None if key in keys else ("NoKey", key)


def reset(plain, name, place, key):
    return known_key(plain, name, place, key)


def push(plain, name, place, key):
    found = known_key(plain, name, place, key)
    if found:
        return found
    use = part(plain.pieces[name], place)
    if use[2]:
        return ("Frozen", use[1], use[2])
    entry = [entry for entry in use[3] if key_of(entry) == key][0]
    if does_rest(plain, use, entry):
        return ("Rests", key)
    links = all_links(("use", "t", 0, (entry,)))
    outside = [path for path in links if path[:len(place)] != place]
    return ("Outside", outside[0]) if outside else None


def does_rest(plain, use, entry):
    tree = tree_of(plain.rows(use[1]))
    word, path = entry[:2]
    hides = [other for other in use[3] if other[0] == "hide"]
    there = kept(hides, tree)
    if word in ("set", "drop"):
        return path not in there
    if word == "put":
        return path[:-1] not in there or path in there
    return path not in paths_of(tree) or any(path[:len(some[1])] == some[1] and path != some[1] for some in hides)


def extract(plain, name, path, new):
    if path == () or not is_own(plain, name, path):
        return ("NoNode", path)
    found = bad_new(plain, new)
    if found:
        return found
    outside = [link for link in all_links(part(plain.pieces[name], path)) if link[:len(path)] != path]
    return ("Outside", outside[0]) if outside else None


def inline(plain, name, place):
    return None if is_place(plain, name, place) else ("NoUse", place)


def share(plain, names, new):
    found = bad_new(plain, new)
    if found:
        return found
    if not isinstance(names, tuple) or not 1 <= len(names) <= 6:
        return ("UnknownTemplate", names)
    for name in names:
        if not is_name(name) or name not in plain.names:
            return ("UnknownTemplate", name)
        if all_uses(plain.pieces[name]):
            return ("NotPlain", name)
    return None


def rename_child(plain, name, path, new):
    if path == () or not is_own(plain, name, path):
        return ("NoNode", path)
    if not is_name(new):
        return ("BadName", new)
    other = (*path[:-1], new)
    if part(plain.pieces[name], other) is not None:
        return ("IdInUse", other)
    found = plain.reached({name: {path}}, False)
    starts = {some: {(*path[:-1], new) for path in found[some]} for some in plain.names}
    return clash(plain, lambda entry, use: any(entry[1][:len(some)] == some for some in starts[use[1]]))


def rename_prop(plain, name, path, prop, new):
    if not is_own(plain, name, path):
        return ("NoNode", path)
    props = [row[0] for row in part(plain.pieces[name], path)[1]]
    if prop not in props:
        return ("NoProp", prop)
    if not is_name(new):
        return ("BadName", new)
    if new in props:
        return ("PropInUse", new)
    found = plain.reached({name: {path}}, True)
    return clash(plain, lambda entry, use: key_of(entry) in [("prop", some, new) for some in found[use[1]]])


def clash(plain, is_in_the_way):
    for name in plain.names:
        for kind, entry, use in walk(plain.pieces[name]):
            if kind == "entry" and use[2] == 0 and is_in_the_way(entry, use):
                return ("Clash", name, key_of(entry))
    return None


def release(plain, name):
    return None


def upgrade(plain, name, place, number):
    """All but Clash."""
    if not is_place(plain, name, place):
        return ("NoUse", place)
    _, used, present, _ = part(plain.pieces[name], place)
    if not is_number(number) or not 0 <= number <= len(plain.frozen[used]):
        return ("UnknownRelease", used, number)
    if number and (present == 0 or number < present):
        return ("Older", number)
    return None
