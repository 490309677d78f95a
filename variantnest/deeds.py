"""The deeds: each makes the next state of a library, and a result, or is refused."""

from variantnest.applying import Overrides, does_rest
from variantnest.between import common, table_between
from variantnest.carrying import STAND_IN, Carrier, made_renaming, unmarked
from variantnest.errors import (
    BadEntry, BadName, BadPiece, Frozen, IdInUse, InUse, NameInUse, NoKey, NoNode, NoProp, NotPlain, NoUse, Older,
    Outside, PropInUse, Rests, UnknownRelease, UnknownTemplate,
)
from variantnest.editing import written
from variantnest.pieces import (
    first_outside, is_override, is_piece, links_in, links_of, override_of, own_node, piece_of, relinked,
    relinked_entry, use_at, uses_in, with_child, with_part,
)
from variantnest.shapes import begins
from variantnest.state import State, differing, live_names
from variantnest.tables import entry_key, keyed, ordered
from variantnest.trees import node_at
from variantnest.values import is_integer, is_name

MOST_SHARED = 6


def known_piece(state, name):
    """Return the definition of a template; refuse an unknown one."""
    if not is_name(name) or name not in state.pieces:
        raise UnknownTemplate(name)
    return state.pieces[name]


def known_use(state, name, place):
    """Return the use at a place of a template; refuse an unknown one."""
    use = use_at(known_piece(state, name), place)
    if use is None:
        raise NoUse(place)
    return use


def known_child(state, name, path):
    """Return the own node at a path of a template; refuse an unknown one and the root."""
    found = own_node(known_piece(state, name), path)
    if found is None or path == ():
        raise NoNode(path)
    return found


def refuse_name(state, name):
    """Refuse what cannot be the name of another template."""
    if not is_name(name):
        raise BadName(name)
    if name in state.pieces:
        raise NameInUse(name)


def has_release(state, name, number):
    """Return whether a template has a release with any object as its number, or it is 0."""
    return is_integer(number) and 0 <= number <= len(state.frozen[name])


def users_of(state, name):
    """Return the names of the templates that use one or its releases."""
    return [user for user in sorted(state.pieces) if name in [use[1] for use in uses_in(state.pieces[user])]]


def redefined(state, pieces):
    """Return the state with other definitions of some templates."""
    draft = state.twin()
    draft.pieces.update(pieces)
    draft.settle(state)
    return draft


def make(state, name, piece):
    """Add a template."""
    refuse_name(state, name)
    if not is_piece(piece):
        raise BadPiece()
    draft = state.twin()
    draft.begin(name, piece)
    draft.refuse_unknown(uses_in(piece))
    draft.settle(state)
    return (draft, None)


def define(state, name, piece):
    """Replace the definition of a template."""
    known_piece(state, name)
    if not is_piece(piece):
        raise BadPiece()
    state.refuse_unknown(uses_in(piece))
    return (redefined(state, {name: piece}), None)


def remove(state, name):
    """Take a template out."""
    known_piece(state, name)
    others = [user for user in users_of(state, name) if user != name]
    if others != []:
        raise InUse(others[0])
    draft = state.twin()
    draft.leave(name)
    return (draft, None)


def rename_template(state, name, new):
    """Give a template another name."""
    known_piece(state, name)
    refuse_name(state, new)
    draft = State()
    for old in state.pieces:
        called = new if old == name else old
        draft.pieces[called] = readdressed(state.pieces[old], name, new)
        draft.frozen[called] = state.frozen[old]
        draft.logs[called] = state.logs[old]
        # Nothing is shown otherwise, so the trees stay.
        draft.trees[called] = state.trees[old]
        draft.lives[called] = live_names(draft.pieces[called])
    return (draft, None)


def readdressed(piece, name, new):
    """Return a piece with uses of a template under its new name."""
    if piece[0] == "node":
        return (*piece[:2], tuple([(some, readdressed(child, name, new)) for some, child in piece[2]]))
    entries = [
        ("put", entry[1], readdressed(entry[2], name, new)) if entry[0] == "put" else entry for entry in piece[3]
    ]
    return ("use", new if piece[1] == name else piece[1], piece[2], tuple(entries))


def change(state, name, entry):
    """Carry out an entry on what a template shows."""
    piece = known_piece(state, name)
    if not is_override(entry):
        raise BadEntry(0)
    tree = state.trees[name]
    above = entry[1][:-1] if entry[0] == "put" else entry[1]
    if node_at(tree, above) is None:
        raise NoNode(entry[1])
    if entry[0] == "put":
        if node_at(tree, entry[1]) is not None:
            raise IdInUse(entry[1])
        state.refuse_unknown(uses_in(entry[2]))
    return (redefined(state, {name: written(state, piece, (), entry)}), None)


def with_entries(piece, place, entries):
    """Return a definition with other entries of the use at a place."""
    return with_part(piece, place, (*use_at(piece, place)[:3], entries))


def reset(state, name, place, key):
    """Take an entry out of the table of a use."""
    rows = keyed(known_use(state, name, place)[3])
    known_entry(rows, key)
    rows.pop(key)
    return (redefined(state, {name: with_entries(state.pieces[name], place, ordered(rows))}), None)


def known_entry(rows, key):
    """Return the entry that has any object as its key; refuse an unknown one."""
    for some in rows:
        if some == key:
            return rows[some]
    raise NoKey(key)


def push(state, name, place, key):
    """Move an entry of a use into the template that is used."""
    use = known_use(state, name, place)
    rows = keyed(use[3])
    entry = known_entry(rows, key)
    if use[2] != 0:
        raise Frozen(use[1], use[2])
    tree = state.trees[use[1]]
    if does_rest(Overrides(use[3]), entry, tree):
        raise Rests(key)
    outside = first_outside(links_of(entry), place)
    if outside is not None:
        raise Outside(outside)
    lower = state.pieces[use[1]]
    for moved in moving(rows, entry, tree):
        inner = relinked_entry(moved, lambda path: path[len(place):])
        lower = written(state, lower, (), inner)
    upper = with_entries(state.pieces[name], place, staying(use[3], entry))
    draft = redefined(state, {name: upper, use[1]: lower})
    return (draft, differing(state, draft))


def moving(rows, entry, tree):
    """Return the entries that move together: a put entry behind the hide entry of a node at its path."""
    hide = ("hide", entry[1])
    if entry[0] == "put" and hide in rows and node_at(tree, entry[1]) is not None:
        return [rows[hide], entry]
    return [entry]


def staying(entries, entry):
    """Return the entries of a use that stay when one moves: for a put entry those at no path of its piece."""
    if entry[0] == "put":
        return tuple([other for other in entries if not begins(other[1], entry[1])])
    return tuple([other for other in entries if other != entry])


def extract(state, name, path, new):
    """Make a template of an own node."""
    found = known_child(state, name, path)
    refuse_name(state, new)
    outside = first_outside(links_in(found), path)
    if outside is not None:
        raise Outside(outside)
    draft = state.twin()
    draft.begin(new, relinked(found, lambda link: link[len(path):]))
    draft.pieces[name] = with_part(state.pieces[name], path, ("use", new, 0, ()))
    draft.settle(state)
    return (draft, None)


def inline(state, name, place):
    """Put nodes in the place of a use."""
    known_use(state, name, place)
    shown = piece_of(node_at(state.trees[name], place))
    return (redefined(state, {name: with_part(state.pieces[name], place, shown)}), None)


def share(state, names, new):
    """Make some templates without uses variants of a common base."""
    refuse_name(state, new)
    if not isinstance(names, tuple) or not 1 <= len(names) <= MOST_SHARED:
        raise UnknownTemplate(names)
    for name in names:
        if uses_in(known_piece(state, name)) != []:
            raise NotPlain(name)
    different = sorted(set(names))
    base, _ = common([state.trees[name] for name in different])
    draft = state.twin()
    draft.begin(new, piece_of(base))
    for name in different:
        table = table_between(base, state.trees[name])
        draft.pieces[name] = ("use", new, 0, tuple([override_of(entry) for entry in table]))
    draft.settle(state)
    return (draft, None)


def rename_child(state, name, path, new):
    """Give an own node another id."""
    known_child(state, name, path)
    if not is_name(new):
        raise BadName(new)
    above = own_node(state.pieces[name], path[:-1])
    if new in dict(above[2]):
        raise IdInUse((*path[:-1], new))
    carrier = Carrier(state)
    carrier.carry(name, ("child", path, new))
    # The links in it are carried along by now.
    above = own_node(carrier.pieces[name], path[:-1])
    child = dict(above[2])[path[-1]]
    above = with_child(with_child(above, path[-1], None), new, child)
    carrier.pieces[name] = with_part(carrier.pieces[name], path[:-1], above)
    return (recarried(state, carrier), None)


def rename_prop(state, name, path, prop, new):
    """Give a prop of an own node another name."""
    found = own_node(known_piece(state, name), path)
    if found is None:
        raise NoNode(path)
    if prop not in [pair[0] for pair in found[1]]:
        raise NoProp(prop)
    if not is_name(new):
        raise BadName(new)
    if new in dict(found[1]):
        raise PropInUse(new)
    carrier = Carrier(state)
    carrier.carry(name, ("prop", path, prop, new))
    found = own_node(carrier.pieces[name], path)
    props = tuple(sorted([(new if some == prop else some, worth) for some, worth in found[1]]))
    carrier.pieces[name] = with_part(carrier.pieces[name], path, ("node", props, found[2]))
    return (recarried(state, carrier), None)


def recarried(state, carrier):
    """Return the state with the definitions and logs behind renamings."""
    draft = state.twin()
    draft.pieces = {name: unmarked(carrier.pieces[name]) for name in carrier.pieces}
    draft.logs = dict(carrier.logs)
    draft.settle(state)
    return draft


def release(state, name):
    """Make a release of a template; the result is its number."""
    known_piece(state, name)
    draft = state.twin()
    draft.frozen[name] = (*state.frozen[name], (len(state.logs[name]), state.trees[name]))
    return (draft, len(draft.frozen[name]))


def upgrade(state, name, place, number):
    """Move a use to another release; the result is the keys of the entries below which a value differs."""
    use = known_use(state, name, place)
    used, present = use[1], use[2]
    if not has_release(state, used, number):
        raise UnknownRelease(used, number)
    if number != 0 and (present == 0 or number < present):
        raise Older(number)
    rows = passed_rows(state, used, present, number)
    carrier = Carrier(state)
    carrier.stand_in(name, place)
    for row in rows:
        carrier.carry(STAND_IN, row)
    entries = use_at(carrier.pieces[name], place)[3]
    carrier.pieces[name] = with_part(carrier.pieces[name], place, ("use", used, number, entries))
    draft = recarried(state, carrier)
    return (draft, differing_keys(use[3], rows, state.tree_of(used, present), draft.tree_of(used, number)))


def passed_rows(state, name, present, number):
    """Return the rows of the log of a template from a release on up to another one, or for 0 to the end."""
    log = state.logs[name]
    start, end = [len(log) if some == 0 else state.frozen[name][some - 1][0] for some in (present, number)]
    return log[start:end]


def differing_keys(entries, rows, one, other):
    """Return the new keys of the set and drop entries whose nodes have different values in two trees."""
    found = []
    for entry in entries:
        if entry[0] in ("drop", "set"):
            moved = entry
            for row in rows:
                moved = made_renaming({STAND_IN: {row[1]: True}}, row).moved_entry(STAND_IN, moved)
            before = node_at(one, entry[1])
            behind = node_at(other, moved[1])
            if before is not None and behind is not None:
                if dict(before[0]).get(entry[2]) != dict(behind[0]).get(moved[2]):
                    found.append(entry_key(moved))
    return sorted(found)


# The functions of the deeds by their names, and how many arguments there are.
DEEDS = {
    "make": (make, 2), "define": (define, 2), "remove": (remove, 1), "rename_template": (rename_template, 2),
    "change": (change, 2), "reset": (reset, 3), "push": (push, 3), "extract": (extract, 3), "inline": (inline, 2),
    "share": (share, 2), "rename_child": (rename_child, 3), "rename_prop": (rename_prop, 4), "release": (release, 1),
    "upgrade": (upgrade, 3),
}


def is_step(step):
    """Return whether any object is the name of a deed with as many arguments as it has."""
    if not isinstance(step, tuple) or step == () or not isinstance(step[0], str) or step[0] not in DEEDS:
        return False
    return len(step) == DEEDS[step[0]][1] + 1


def outcome(state, step):
    """Return the state behind a step and its result, or raise what the deed raises."""
    deed = DEEDS[step[0]][0]
    passed = step[1:]
    return deed(state, *passed)
