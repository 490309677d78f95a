"""The form of texts as a grammar over characters, to find the first character that no text of the form has there."""

import functools

LETTERS = "abcdefghijklmnopqrstuvwxyz"
# L is any letter, P a digit but 0, D any digit; other single characters stand for themselves.
CLASSES = {"L": LETTERS, "P": "123456789", "D": "0123456789"}


def spelled(word):
    return tuple(CAPITALS[sign] for sign in word)


# Letters that stand for themselves, as capitals of their own names would be classes.
CAPITALS = {sign: "'" + sign for sign in LETTERS}


def rules(has_uses):
    part = [("node",), ("use",)] if has_uses else [("node",)]
    return {
        # A name of at most so many letters.
        **{f"n{many}": [("L",), ("L", f"n{many - 1}")] if many > 1 else [("L",)] for many in range(1, 9)},
        "ws": [(), (" ", "ws")],
        "sp": [(" ", "ws")],
        "name": [("n8",)],
        "path": [(".",), ("names",)],
        "names": [("name",), ("name", "ws", "/", "ws", "names")],
        "count": [("0",), ("P", "digits")],
        "int": [("count",), ("-", "P", "digits")],
        "digits": [(), ("D", "digits")],
        "value": [("int",), ("name",), ("@", "ws", "path")],
        "part": part,
        "node": [("{", "ws", "}"), ("{", "ws", "items", "ws", "}")],
        "items": [("prop",), ("prop", "ws", ",", "ws", "items"), ("kids",)],
        "kids": [("kid",), ("kid", "ws", ",", "ws", "kids")],
        "prop": [("name", "ws", "=", "ws", "value")],
        "kid": [("name", "ws", "part")],
        "use": [("<", "ws", "name", "ws", "count", "ws", ">"),
                ("<", "ws", "name", "ws", "count", "ws", ":", "ws", "entries", "ws", ">")],
        "entries": [("entry",), ("entry", "ws", ";", "ws", "entries")],
        "entry": [
            (*spelled("hide"), "sp", "names"), (*spelled("put"), "sp", "names", "ws", "part"),
            (*spelled("drop"), "ws", ".", "ws", "name"), (*spelled("drop"), "sp", "names", "sp", "name"),
            (*spelled("set"), "ws", ".", "ws", "name", "last"), (*spelled("set"), "sp", "names", "sp", "name", "last"),
        ],
        "last": [("sp", "name"), ("ws", "int"), ("ws", "@", "ws", "path")],
        "tree": [("ws", "node", "ws")],
        "table": [("ws",), ("ws", "entries", "ws")],
        "piece": [("ws", "part", "ws")],
    }


RULES = {has_uses: rules(has_uses) for has_uses in (False, True)}


@functools.lru_cache(maxsize=None)
def opened(stack, has_uses):
    """The stacks of symbols that begin with a character, or are empty, that a stack may become."""
    if not stack or stack[0] not in RULES[has_uses]:
        return frozenset([stack])
    found = set()
    for rule in RULES[has_uses][stack[0]]:
        found |= opened((*rule, *stack[1:]), has_uses)
    return frozenset(found)


def fits(symbol, sign):
    if symbol in CLASSES:
        return sign in CLASSES[symbol]
    return symbol == (CAPITALS.get(sign, sign))


def first_wrong(kind, text):
    """The index of the first wrong character, the length of the text if it ends too early, or None."""
    has_uses = kind == "piece"
    stacks = opened((kind,), has_uses)
    for index, sign in enumerate(text):
        behind = set()
        for stack in stacks:
            if stack and fits(stack[0], sign):
                behind |= opened(stack[1:], has_uses)
        if not behind:
            return index
        stacks = behind
    return None if () in stacks else len(text)
