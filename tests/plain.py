"""A plain second reading of the document: what definitions show, and what deeds are to do, path by path."""

from tests.samples import key_of, kept, paths_of, tree_of


class Plain:
    """The definitions and releases of a library, with what they show as rows: a dict of props for each path."""

    def __init__(self, library):
        self.names = library.names()
        self.pieces = {name: library.definition(name) for name in self.names}
        self.frozen = {
            name: [library.shown(name, number + 1) for number in range(library.releases(name))] for name in self.names
        }
        self.found = {}

    def rows(self, name, release=0):
        """What a template or a release shows."""
        if release:
            return paths_of(self.frozen[name][release - 1])
        if name not in self.found:
            self.found[name] = self.piece_rows(self.pieces[name], ())
        return self.found[name]

    def tree(self, name):
        return tree_of(self.rows(name))

    def piece_rows(self, piece, at):
        """[20]: what a piece shows at a path."""
        if piece[0] == "node":
            rows = {(): dict(piece[1])}
            for name, child in piece[2]:
                inner = self.piece_rows(child, (*at, name))
                rows.update({(name, *path): inner[path] for path in inner})
            return rows
        _, name, release, entries = piece
        base = {path: linked(props, at) for path, props in self.rows(name, release).items()}
        hidden = [entry[1] for entry in entries if entry[0] == "hide"]
        kept_rows = {path: base[path] for path in base if not any(path[:len(some)] == some for some in hidden)}
        rows = {path: dict(kept_rows[path]) for path in kept_rows}
        for word, path, *rest in entries:
            if word == "set" and path in kept_rows:
                rows[path][rest[0]] = rest[1]
            elif word == "drop" and path in kept_rows:
                rows[path].pop(rest[0], None)
            elif word == "put" and path[:-1] in kept_rows and path not in kept_rows:
                inner = self.piece_rows(rest[0], (*at, *path))
                rows.update({path + below: inner[below] for below in inner})
        return rows

    def acting(self, use):
        """The put entries of a use that act."""
        tree = tree_of(self.rows(use[1], use[2]))
        table = [entry for entry in use[3] if entry[0] == "hide"]
        there = kept(table, tree)
        return [
            entry for entry in use[3]
            if entry[0] == "put" and entry[1][:-1] in there and entry[1] not in there
        ]

    def shown_uses(self, piece, at=()):
        """All uses that a piece shows, with their paths."""
        if piece[0] == "node":
            return [found for name, child in piece[2] for found in self.shown_uses(child, (*at, name))]
        found = [(at, piece)]
        for entry in self.acting(piece):
            found.extend(self.shown_uses(entry[2], (*at, *entry[1])))
        return found

    def reached(self, start, is_prop, ahead=None):
        """[29]: for each template the paths that stand for a node, or lead to it."""
        found = dict(start)

        def paths(name):
            if name not in found:
                rows = set()
                for at, use in self.shown_uses(self.pieces[name]):
                    if use[2] == 0:
                        puts = [entry[1] for entry in self.acting(use)]
                        for path in paths(use[1]):
                            if not any(in_the_way(put, path, is_prop) for put in puts) and len(at) + len(path) <= 8:
                                rows.add(at + path)
                found[name] = rows
            return found[name]

        return {name: paths(name) for name in self.names}


def in_the_way(put, path, is_prop):
    return path[:len(put)] == put and (is_prop or path != put)


def linked(props, at):
    return {name: ("link", at + worth[1]) if isinstance(worth, tuple) else worth for name, worth in props.items()}


def walk(piece):
    """All parts of a piece: nodes, uses, and entries with the use that has them, as they are written."""
    if piece[0] == "node":
        yield ("node", piece, None)
        for _, child in piece[2]:
            yield from walk(child)
    else:
        yield ("use", piece, None)
        for entry in piece[3]:
            yield ("entry", entry, piece)
            if entry[0] == "put":
                yield from walk(entry[2])


def all_uses(piece):
    return [part for kind, part, _ in walk(piece) if kind == "use"]


def all_links(piece):
    found = []
    for kind, part, _ in walk(piece):
        if kind == "node":
            found.extend(worth[1] for _, worth in part[1] if isinstance(worth, tuple))
        elif kind == "entry" and part[0] == "set" and isinstance(part[3], tuple):
            found.append(part[3][1])
    return found


def called(path, paths, new):
    """A path with the new id wherever it or a beginning of it is one of some paths."""
    return tuple(new if path[:at + 1] in paths else path[at] for at in range(len(path)))


def child_renamed(piece, home, found, new):
    """[30]: a piece of the definition of a template, with entries and links carried along."""
    def link(worth):
        return ("link", called(worth[1], found[home], new)) if isinstance(worth, tuple) else worth

    if piece[0] == "node":
        props = tuple((name, link(worth)) for name, worth in piece[1])
        return ("node", props, tuple((name, child_renamed(child, home, found, new)) for name, child in piece[2]))
    entries = []
    for entry in piece[3]:
        path = called(entry[1], found[piece[1]], new) if piece[2] == 0 else entry[1]
        rest = list(entry[2:])
        if entry[0] == "put":
            rest[0] = child_renamed(entry[2], home, found, new)
        elif entry[0] == "set":
            rest[1] = link(entry[3])
        entries.append((entry[0], path, *rest))
    return (*piece[:3], tuple(sorted(entries, key=key_of)))


def prop_renamed(piece, found, old, new):
    """[31]: a piece with the entries for a prop of a node carried along."""
    if piece[0] == "node":
        return (*piece[:2], tuple((name, prop_renamed(child, found, old, new)) for name, child in piece[2]))
    entries = []
    for entry in piece[3]:
        if entry[0] == "put":
            entry = ("put", entry[1], prop_renamed(entry[2], found, old, new))
        elif entry[0] in ("set", "drop") and piece[2] == 0 and entry[1] in found[piece[1]] and entry[2] == old:
            entry = (*entry[:2], new, *entry[3:])
        entries.append(entry)
    return (*piece[:3], tuple(sorted(entries, key=key_of)))


def own_rename(piece, path, new):
    """A definition with another id for an own node."""
    if len(path) > 1:
        rows = [(name, own_rename(child, path[1:], new) if name == path[0] else child) for name, child in piece[2]]
    else:
        rows = [(new if name == path[0] else name, child) for name, child in piece[2]]
    return (*piece[:2], tuple(sorted(rows, key=lambda row: row[0])))


def own_prop_rename(piece, path, old, new):
    """A definition with another name for a prop of an own node."""
    if path:
        rows = [
            (name, own_prop_rename(child, path[1:], old, new) if name == path[0] else child) for name, child in piece[2]
        ]
        return (*piece[:2], tuple(rows))
    return ("node", tuple(sorted((new if name == old else name, worth) for name, worth in piece[1])), piece[2])


def own_paths(piece, at=()):
    """The paths of the own nodes of a definition."""
    if piece[0] == "use":
        return []
    return [at] + [path for name, child in piece[2] for path in own_paths(child, (*at, name))]


def part(piece, path):
    """What stands in a definition at a path, reached through nodes alone, or None."""
    for name in path:
        piece = dict(piece[2]).get(name) if piece[0] == "node" else None
        if piece is None:
            return None
    return piece


def replaced(piece, path, other):
    """A definition with another part at a path."""
    if not path:
        return other
    rows = [(name, replaced(child, path[1:], other) if name == path[0] else child) for name, child in piece[2]]
    return (*piece[:2], tuple(rows))


def piece_of(tree):
    return ("node", tree[0], tuple((name, piece_of(child)) for name, child in tree[1]))


def entry_shown(plain, entry):
    """An entry with a piece as an entry with the tree that it shows."""
    if entry[0] == "put":
        return ("put", entry[1], tree_of(plain.piece_rows(entry[2], entry[1])))
    return entry


def written(plain, piece, entry, at=()):
    """[25]: a piece at a path, changed by an entry whose path counts from the root of the piece."""
    word, path = entry[:2]
    concerned = path[:-1] if word in ("hide", "put") else path
    many = 0
    while part(piece, concerned[:many])[0] == "node" and many < len(concerned):
        many += 1
    found = part(piece, concerned[:many])
    if found[0] == "node":
        props, children = dict(found[1]), dict(found[2])
        if word == "set":
            props[entry[2]] = entry[3]
        elif word == "drop":
            props.pop(entry[2], None)
        elif word == "hide":
            del children[path[-1]]
        else:
            children[path[-1]] = entry[2]
        return replaced(piece, concerned, ("node", tuple(sorted(props.items())), tuple(sorted(children.items()))))
    place, rest = concerned[:many], path[many:]
    entries = list(found[3])
    puts = [put for put in plain.acting(found) if rest[:len(put[1])] == put[1]]
    if puts and word == "hide" and puts[0][1] == rest:
        entries.remove(puts[0])
    elif puts:
        put, below = puts[0], (word, rest[len(puts[0][1]):], *entry[2:])
        entries[entries.index(put)] = (*put[:2], written(plain, put[2], below, (*at, *place, *put[1])))
    else:
        entry = (word, rest, *entry[2:])
        entries = [other for other in entries if key_of(other) != key_of(entry)]
        if word == "hide":
            entries = [other for other in entries if other[:2] != ("put", rest)]
        props = linked(plain.rows(found[1], found[2]).get(rest, {}), (*at, *place))
        says_it = word == "set" and props.get(entry[2]) == entry[3] or word == "drop" and entry[2] not in props
        if not says_it:
            entries.append(entry)
    return replaced(piece, place, (*found[:3], tuple(sorted(entries, key=key_of))))


def links_shortened(entry, many):
    """An entry with a piece, with so many names less at the beginning of each link."""
    def worth_of(worth):
        return ("link", worth[1][many:]) if isinstance(worth, tuple) else worth

    def piece_of_links(piece):
        if piece[0] == "node":
            props = tuple((name, worth_of(worth)) for name, worth in piece[1])
            return ("node", props, tuple((name, piece_of_links(child)) for name, child in piece[2]))
        return (*piece[:3], tuple(links_shortened(some, many) for some in piece[3]))

    if entry[0] == "put":
        return ("put", entry[1], piece_of_links(entry[2]))
    return (*entry[:3], worth_of(entry[3])) if entry[0] == "set" else entry
