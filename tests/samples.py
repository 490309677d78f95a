"""Objects that several tests pass, and plain definitions to test against."""

import functools
import itertools
import random
import re
import time

from variantnest.errors import BadEntry, TwoEntries

EMPTY = ((), ())
EIGHT = ("a", "b", "c", "d", "e", "f", "g", "h")
NINE = (*EIGHT, "i")
HUGE = 10 ** 30 - 1


def deep(levels, kind=tuple):
    """An object nested so deep, almost as deep as a function can call itself."""
    value = kind()
    for _ in range(levels):
        value = kind([value])
    return value


def chain(names, props=()):
    """A tree with one node at each beginning of a path."""
    tree = (props, ())
    for name in reversed(names):
        tree = ((), ((name, tree),))
    return tree


def lists(value):
    """The value with each tuple turned into a list, also inside."""
    if isinstance(value, (list, tuple)):
        return [lists(item) for item in value]
    return value


def tuples(value):
    """The value with each list turned into a tuple, also inside."""
    if isinstance(value, (list, tuple)):
        return tuple([tuples(item) for item in value])
    return value


def refused(test, error, function, *passed):
    """The fields of the error that a call raises, which a test expects."""
    with test.assertRaises(error) as held:
        function(*passed)
    test.assertIs(type(held.exception), error)
    return vars(held.exception)


JUNK = (
    0, 1, -1, HUGE, -HUGE, True, False, None, "", "a", "ab", "A", "a b", "link", "drop", "hide",
    "abcdefghi", "set", "a\n", (), [], ("a",), ["a"], ("A",), ("a", "b"), NINE, ((), ()), [[], []],
    ((), [], ()), ("link", ()), ["link", []], ("link", ["a"]), ("link", NINE), ("link", "a"),
    ("link",), ("link", (), ()), ("links", ()), ("a", 1), ("a", True), (("a", 1),), [("a", 1)],
    (("a", 1), ("a", 1)), (("b", 1), ("a", 1)), (("a", 1), ("b", "c")), ((("a", 1),), ()),
    ((), (("a", ((), ())),)), (("a", ((), ())),), ("a", ((), ())), ((), (("a", ((), ())),), ()),
    (None, ((1,), [False])), deep(200), deep(200, list),
)


def is_name(value):
    return isinstance(value, str) and re.fullmatch("[a-z]{1,8}", value) is not None


def is_path(value):
    return isinstance(value, tuple) and len(value) <= 8 and all(is_name(name) for name in value)


def is_value(value):
    if isinstance(value, tuple):
        return len(value) == 2 and value[0] == "link" and is_path(value[1])
    return is_name(value) or (isinstance(value, int) and value is not True and value is not False)


def are_rows(rows):
    if not isinstance(rows, tuple):
        return False
    if not all(isinstance(row, tuple) and len(row) == 2 and is_name(row[0]) for row in rows):
        return False
    names = [row[0] for row in rows]
    return names == sorted(set(names))


def is_tree(value, above=0):
    if above > 8 or not isinstance(value, tuple) or len(value) != 2 or not all(map(are_rows, value)):
        return False
    return all(is_value(row[1]) for row in value[0]) and all(is_tree(row[1], above + 1) for row in value[1])


def is_entry(value):
    if not isinstance(value, tuple) or len(value) < 2 or not is_path(value[1]):
        return False
    shape = (value[0], len(value))
    if shape == ("drop", 3):
        return is_name(value[2])
    if shape == ("set", 4):
        return is_name(value[2]) and is_value(value[3])
    if shape == ("hide", 2):
        return value[1] != ()
    return shape == ("put", 3) and value[1] != () and is_tree(value[2], len(value[1]))


def key_of(entry):
    words = {"drop": "prop", "set": "prop", "hide": "hide", "put": "put"}
    return (words[entry[0]], *entry[1:3]) if words[entry[0]] == "prop" else entry[:2]


def is_table(value):
    if not isinstance(value, tuple) or not all(map(is_entry, value)):
        return False
    keys = [key_of(entry) for entry in value]
    return keys == sorted(set(keys))


def some_name(rng):
    return "".join(rng.choice("abz") for _ in range(rng.choice((1, 1, 1, 2, 8))))


def some_path(rng, longest=8):
    return tuple(some_name(rng) for _ in range(rng.randint(0, longest)))


def some_value(rng):
    return rng.choice((0, -7, HUGE, "on", "rank", ("link", ()), ("link", some_path(rng))))


def some_tree(rng, levels=3):
    names = ["rank", *(some_name(rng) for _ in range(rng.randint(0, 2)))]
    props = {name: some_value(rng) for name in rng.sample(names, rng.randint(0, len(names)))}
    many = rng.randint(0, 2) if levels else 0
    children = {some_name(rng): some_tree(rng, levels - 1) for _ in range(many)}
    return (tuple(sorted(props.items())), tuple(sorted(children.items())))


def some_entry(rng):
    path = some_path(rng, 3)
    below = path or ("a",)
    return rng.choice((
        ("drop", path, some_name(rng)), ("set", path, some_name(rng), some_value(rng)),
        ("hide", below), ("put", below, some_tree(rng)),
    ))


def some_table(rng, most=5):
    entries = {}
    for _ in range(rng.randint(0, most)):
        entry = some_entry(rng)
        entries[key_of(entry)] = entry
    return tuple(entries[key] for key in sorted(entries))


def spoiled(rng, value):
    """The value with one object in it changed, left out, repeated or moved."""
    if not isinstance(value, tuple) or not value or rng.random() < 0.15:
        return rng.choice(JUNK)
    at = rng.randrange(len(value))
    way = rng.random()
    if way < 0.7:
        return (*value[:at], spoiled(rng, value[at]), *value[at + 1:])
    if way < 0.78:
        return (*value[:at], *value[at + 1:])
    if way < 0.86:
        return (*value[:at], value[at], *value[at:])
    if way < 0.93:
        return value[::-1]
    return list(value)


def seeded(number):
    return random.Random(number)


def paths_of(tree, path=()):
    """The props of each node of a tree, a dict for each path."""
    rows = {path: dict(tree[0])}
    for name, child in tree[1]:
        rows.update(paths_of(child, (*path, name)))
    return rows


def tree_of(rows, path=()):
    """The tree with such nodes."""
    names = sorted(below[-1] for below in rows if below and below[:-1] == path)
    children = tuple((name, tree_of(rows, (*path, name))) for name in names)
    return (tuple(sorted(rows[path].items())), children)


def kept(table, tree):
    """The nodes of a tree that no hide entry concerns, path by path."""
    hidden = [entry[1] for entry in table if entry[0] == "hide"]
    found = paths_of(tree)
    return {path: found[path] for path in found if not any(path[:len(some)] == some for some in hidden)}


def applied(table, tree):
    """What [13] says, path by path."""
    rows = kept(table, tree)
    shown = {path: dict(rows[path]) for path in rows}
    for word, path, *rest in table:
        if word == "set" and path in rows:
            shown[path][rest[0]] = rest[1]
        elif word == "drop" and path in rows:
            shown[path].pop(rest[0], None)
        elif word == "put" and path[:-1] in rows and path not in rows:
            inner = paths_of(rest[0])
            shown.update({path + below: inner[below] for below in inner})
    return tree_of(shown)


def without(table, entry):
    return tuple(other for other in table if other != entry)


def tables_of(entries, most):
    """All tables of a few of these entries."""
    for many in range(most + 1):
        for some in itertools.combinations(sorted(entries, key=key_of), many):
            if is_table(some):
                yield some


@functools.lru_cache(maxsize=None)
def trees_of(many, names, props):
    """All trees of so many nodes with these ids, each node with one of some props."""
    return tuple((own, rows) for own in props for rows in rows_of(many - 1, names, names, props))


@functools.lru_cache(maxsize=None)
def rows_of(many, names, inner, props):
    """All children of so many nodes together, with these ids; further down inner are the ids."""
    if not names:
        return () if many else ((),)
    found = list(rows_of(many, names[1:], inner, props))
    for part in range(1, many + 1):
        rest = rows_of(many - part, names[1:], inner, props)
        for tree, rows in itertools.product(trees_of(part, inner, props), rest):
            found.append(((names[0], tree), *rows))
    return tuple(found)


def trees_up_to(most, names, props):
    """All trees of at most so many nodes, the smaller ones first."""
    return [tree for many in range(1, most + 1) for tree in trees_of(many, names, props)]


def table_fault(value):
    """The error that any object raises in the place of a table, with its fields, or None."""
    value = tuples(value)
    if not isinstance(value, tuple):
        return BadEntry, {"index": 0}
    for index, entry in enumerate(value):
        if not is_entry(entry):
            return BadEntry, {"index": index}
    keys = [key_of(entry) for entry in value]
    for index, key in enumerate(keys):
        if key in keys[:index]:
            return TwoEntries, {"key": key}
    return None


def near_path(rng):
    """A path among few, so that entries meet."""
    return tuple(rng.choice(("a", "b", "ab")) for _ in range(rng.choice((0, 1, 1, 2, 2, 3))))


def near_tree(rng, levels=3):
    names = rng.sample(("a", "b", "ab"), rng.randint(0, 2)) if levels else ()
    props = {name: rng.choice((1, 2, "x", ("link", ()))) for name in rng.sample(("x", "y"), rng.randint(0, 2))}
    return (tuple(sorted(props.items())), tuple((name, near_tree(rng, levels - 1)) for name in sorted(names)))


def near_entry(rng):
    path = near_path(rng)
    below = path or ("a",)
    return rng.choice((
        ("drop", path, rng.choice("xy")), ("set", path, rng.choice("xy"), rng.choice((1, 2, "x", ("link", ())))),
        ("hide", below), ("put", below, near_tree(rng, 1)),
    ))


def near_table(rng, most=8):
    """A table of entries that meet one another and the nodes of near_tree."""
    entries = [near_entry(rng) for _ in range(rng.randint(0, most))]
    rows = {key_of(entry): entry for entry in entries}
    return tuple(rows[key] for key in sorted(rows))


def full_tree(many):
    """A tree of so many nodes, up to 7 levels below the root, each with two props."""
    rows = {(): {"x": 0, "y": 0}}
    for path in itertools.chain.from_iterable(itertools.product("abc", repeat=long) for long in range(1, 9)):
        if len(rows) == many:
            break
        rows[path] = {"x": len(rows), "y": ("link", path)}
    return tree_of(rows)


def full_table(rng, tree, many):
    """A table of so many entries for the nodes of a tree."""
    paths = sorted(paths_of(tree))
    rows = {}
    while len(rows) < many:
        path = rng.choice(paths)
        below = (*path[:7], rng.choice("abcd"))
        entry = rng.choice((
            ("set", path, rng.choice("xyz"), 7), ("drop", path, rng.choice("xyz")), ("put", below, EMPTY),
            ("hide", below) if len(below) > 3 else ("set", path, "x", 8),
        ))
        rows[key_of(entry)] = entry
    return tuple(rows[key] for key in sorted(rows))


def quick(test, limit, function, *passed):
    """The result of a call that takes less than so many seconds, the best of some: the machine itself may halt."""
    times = []
    for _ in range(6):
        start = time.process_time()
        found = function(*passed)
        times.append(time.process_time() - start)
        if times[-1] < limit:
            return found
    test.assertLess(min(times), limit * slowness())
    return found


def slowness():
    """How many times longer than usual this machine takes at the moment to do something that needs memory."""
    start = time.process_time()
    for _ in range(40):
        rows = [(number, (number, str(number))) for number in range(20000)]
        rows.reverse()
    return max(1, (time.process_time() - start) / 0.4)
