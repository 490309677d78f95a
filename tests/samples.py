"""Objects that several tests pass, and plain definitions to test against."""

import random
import re

EIGHT = ("a", "b", "c", "d", "e", "f", "g", "h")
NINE = (*EIGHT, "i")
HUGE = 10 ** 30 - 1


def deep(levels, kind=tuple):
    """An object nested so deep, almost as deep as a function can call itself."""
    value = kind()
    for _ in range(levels):
        value = kind([value])
    return value


def chain(names, props=()):
    """A tree with one node at each beginning of a path."""
    tree = (props, ())
    for name in reversed(names):
        tree = ((), ((name, tree),))
    return tree


def lists(value):
    """The value with each tuple turned into a list, also inside."""
    if isinstance(value, (list, tuple)):
        return [lists(item) for item in value]
    return value


def tuples(value):
    """The value with each list turned into a tuple, also inside."""
    if isinstance(value, (list, tuple)):
        return tuple([tuples(item) for item in value])
    return value


def refused(test, error, function, *passed):
    """The fields of the error that a call raises, which a test expects."""
    with test.assertRaises(error) as held:
        function(*passed)
    test.assertIs(type(held.exception), error)
    return vars(held.exception)


JUNK = (
    0, 1, -1, HUGE, -HUGE, True, False, None, "", "a", "ab", "A", "a b", "link", "drop", "hide",
    "abcdefghi", "set", "a\n", (), [], ("a",), ["a"], ("A",), ("a", "b"), NINE, ((), ()), [[], []],
    ((), [], ()), ("link", ()), ["link", []], ("link", ["a"]), ("link", NINE), ("link", "a"),
    ("link",), ("link", (), ()), ("links", ()), ("a", 1), ("a", True), (("a", 1),), [("a", 1)],
    (("a", 1), ("a", 1)), (("b", 1), ("a", 1)), (("a", 1), ("b", "c")), ((("a", 1),), ()),
    ((), (("a", ((), ())),)), (("a", ((), ())),), ("a", ((), ())), ((), (("a", ((), ())),), ()),
    (None, ((1,), [False])), deep(200), deep(200, list),
)


def is_name(value):
    return isinstance(value, str) and re.fullmatch("[a-z]{1,8}", value) is not None


def is_path(value):
    return isinstance(value, tuple) and len(value) <= 8 and all(is_name(name) for name in value)


def is_value(value):
    if isinstance(value, tuple):
        return len(value) == 2 and value[0] == "link" and is_path(value[1])
    return is_name(value) or (isinstance(value, int) and value is not True and value is not False)


def are_rows(rows):
    if not isinstance(rows, tuple):
        return False
    if not all(isinstance(row, tuple) and len(row) == 2 and is_name(row[0]) for row in rows):
        return False
    names = [row[0] for row in rows]
    return names == sorted(set(names))


def is_tree(value, above=0):
    if above > 8 or not isinstance(value, tuple) or len(value) != 2 or not all(map(are_rows, value)):
        return False
    return all(is_value(row[1]) for row in value[0]) and all(is_tree(row[1], above + 1) for row in value[1])


def is_entry(value):
    if not isinstance(value, tuple) or len(value) < 2 or not is_path(value[1]):
        return False
    shape = (value[0], len(value))
    if shape == ("drop", 3):
        return is_name(value[2])
    if shape == ("set", 4):
        return is_name(value[2]) and is_value(value[3])
    if shape == ("hide", 2):
        return value[1] != ()
    return shape == ("put", 3) and value[1] != () and is_tree(value[2], len(value[1]))


def key_of(entry):
    words = {"drop": "prop", "set": "prop", "hide": "hide", "put": "put"}
    return (words[entry[0]], *entry[1:3]) if words[entry[0]] == "prop" else entry[:2]


def is_table(value):
    if not isinstance(value, tuple) or not all(map(is_entry, value)):
        return False
    keys = [key_of(entry) for entry in value]
    return keys == sorted(set(keys))


def some_name(rng):
    return "".join(rng.choice("abz") for _ in range(rng.choice((1, 1, 1, 2, 8))))


def some_path(rng, longest=8):
    return tuple(some_name(rng) for _ in range(rng.randint(0, longest)))


def some_value(rng):
    return rng.choice((0, -7, HUGE, "on", "rank", ("link", ()), ("link", some_path(rng))))


def some_tree(rng, levels=3):
    names = ["rank", *(some_name(rng) for _ in range(rng.randint(0, 2)))]
    props = {name: some_value(rng) for name in rng.sample(names, rng.randint(0, len(names)))}
    many = rng.randint(0, 2) if levels else 0
    children = {some_name(rng): some_tree(rng, levels - 1) for _ in range(many)}
    return (tuple(sorted(props.items())), tuple(sorted(children.items())))


def some_entry(rng):
    path = some_path(rng, 3)
    below = path or ("a",)
    return rng.choice((
        ("drop", path, some_name(rng)), ("set", path, some_name(rng), some_value(rng)),
        ("hide", below), ("put", below, some_tree(rng)),
    ))


def some_table(rng, most=5):
    entries = {}
    for _ in range(rng.randint(0, most)):
        entry = some_entry(rng)
        entries[key_of(entry)] = entry
    return tuple(entries[key] for key in sorted(entries))


def spoiled(rng, value):
    """The value with one object in it changed, left out, repeated or moved."""
    if not isinstance(value, tuple) or not value or rng.random() < 0.15:
        return rng.choice(JUNK)
    at = rng.randrange(len(value))
    way = rng.random()
    if way < 0.7:
        return (*value[:at], spoiled(rng, value[at]), *value[at + 1:])
    if way < 0.78:
        return (*value[:at], *value[at + 1:])
    if way < 0.86:
        return (*value[:at], value[at], *value[at:])
    if way < 0.93:
        return value[::-1]
    return list(value)


def seeded(number):
    return random.Random(number)
