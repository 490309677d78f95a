"""Names, paths and values."""

LONGEST_NAME = 8
LONGEST_PATH = 8


def is_name(value):
    """Return whether any object is a name: 1 to 8 lowercase letters."""
    if not isinstance(value, str) or not 1 <= len(value) <= LONGEST_NAME:
        return False
    return all(["a" <= sign <= "z" for sign in value])


def is_path(value):
    """Return whether any object is a path: a tuple of at most 8 names."""
    if not isinstance(value, tuple) or len(value) > LONGEST_PATH:
        return False
    return all([is_name(name) for name in value])


def is_value(value):
    """Return whether any object is a value: an integer, a name or a link."""
    return is_integer(value) or is_name(value) or is_link(value)


def is_integer(value):
    """Return whether any object is an integer; truth values are none."""
    return isinstance(value, int) and not isinstance(value, bool)


def is_link(value):
    """Return whether any object is a link: the word link and a path."""
    if not isinstance(value, tuple) or len(value) != 2:
        return False
    return value[0] == "link" and is_path(value[1])
