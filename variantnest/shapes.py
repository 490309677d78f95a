"""What the other modules need to read any object that a caller passes."""


def as_tuples(value):
    """Return the value with each list turned into a tuple, also inside.

    It does not call itself: callers may pass objects nested deeper than calls
    can safely go.
    """
    levels = [([value], [])]
    while True:
        source, built = levels[-1]
        if len(built) == len(source):
            if len(levels) == 1:
                return built[0]
            levels.pop()
            levels[-1][1].append(tuple(built))
        elif isinstance(source[len(built)], (list, tuple)):
            levels.append((source[len(built)], []))
        else:
            built.append(source[len(built)])


def is_pair(value):
    """Return whether any object is a tuple of two."""
    return isinstance(value, tuple) and len(value) == 2


def ascends(keys):
    """Return whether each of some keys is greater than the one ahead of it."""
    return all([one < other for one, other in zip(keys, keys[1:])])


def begins(path, start):
    """Return whether a path is another one or below it."""
    return path[:len(start)] == start
