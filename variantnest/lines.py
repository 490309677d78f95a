"""The parts of lines, which stand between single spaces."""

from variantnest.reading import is_digit
from variantnest.values import is_name, is_path


def path_in(part):
    """Return the path that a part of a line says, or None."""
    path = () if part == "." else tuple(part.split("/"))
    return path if is_path(path) else None


def count_in(part):
    """Return the integer from 0 on that a part of a line says, or None."""
    if part == "" or not all([is_digit(sign) for sign in part]):
        return None
    return None if part[0] == "0" and part != "0" else int(part)


def value_in(part):
    """Return the value that a part of a line says, or None."""
    if part.startswith("@"):
        path = path_in(part[1:])
        return None if path is None else ("link", path)
    if part.startswith("-"):
        number = count_in(part[1:])
        return None if number is None or number == 0 else -number
    return part if is_name(part) else count_in(part)


def key_in(part):
    """Return the key that the end of a line says, or None."""
    word, *rest = part.split(" ")
    path = path_in(rest[0]) if rest != [] else None
    if path is None:
        return None
    if word in ("hide", "put") and len(rest) == 1:
        return (word, path)
    return (word, path, rest[1]) if word == "prop" and len(rest) == 2 and is_name(rest[1]) else None
