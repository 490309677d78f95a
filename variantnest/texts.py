"""Texts of trees, tables, pieces and libraries."""

from variantnest.errors import BadLine, BadPiece, BadText
from variantnest.library import library_with
from variantnest.lines import count_in, path_in
from variantnest.pieces import is_piece, uses_in
from variantnest.reading import Reader
from variantnest.shapes import as_tuples
from variantnest.state import State
from variantnest.tables import is_table, make_table
from variantnest.trees import checked_tree, is_tree
from variantnest.values import is_name

# The words of the lines of a library, with their places behind one another.
RANKS = {"template": 0, "release": 1, "child": 2, "prop": 2}
# What stands at the end of these may have spaces of its own: how many stand ahead of it.
SPACES = {"template": 2, "release": 3}


def tree_text(tree):
    """Return the text of a tree."""
    return part_text(checked_tree(tree))


def table_text(table):
    """Return the text of a table."""
    return entries_text(make_table(table))


def piece_text(piece):
    """Return the text of a piece."""
    piece = as_tuples(piece)
    if not is_piece(piece):
        raise BadPiece()
    return part_text(piece)


def part_text(part):
    """Return the text of a node, as a tree or a piece has it, or of a use."""
    if part[0] == "node":
        return node_text(part[1], part[2])
    if part[0] != "use":
        return node_text(part[0], part[1])
    entries = "" if part[3] == () else ": " + entries_text(part[3])
    return f"<{part[1]} {part[2]}{entries}>"


def node_text(props, children):
    """Return the text of a node."""
    items = [f"{name}={value_text(worth)}" for name, worth in props]
    items.extend([name + part_text(child) for name, child in children])
    return "{" + ", ".join(items) + "}"


def value_text(worth):
    """Return the text of a value."""
    return "@" + path_text(worth[1]) if isinstance(worth, tuple) else str(worth)


def path_text(path):
    """Return the text of a path."""
    return "." if path == () else "/".join(path)


def entries_text(entries):
    """Return the text of the entries of a table or a use."""
    return "; ".join([entry_text(entry) for entry in entries])


def entry_text(entry):
    """Return the text of an entry."""
    parts = [entry[0], path_text(entry[1])]
    if entry[0] == "put":
        parts.append(part_text(entry[2]))
    elif entry[0] != "hide":
        parts.append(entry[2])
    if entry[0] == "set":
        parts.append(value_text(entry[3]))
    return " ".join(parts)


def read_tree(text):
    """Return the tree that a text says."""
    reader = Reader(text, False)
    tree = reader.take_part()
    reader.finish()
    if not is_tree(tree):
        raise BadText(len(text))
    return tree


def read_table(text):
    """Return the table that a text says."""
    reader = Reader(text, False)
    table = () if reader.ahead() == "" else reader.take_table()
    reader.finish()
    if not is_table(table):
        raise BadText(len(text))
    return table


def read_piece(text):
    """Return the piece that a text says."""
    reader = Reader(text, True)
    piece = reader.take_part()
    reader.finish()
    if not is_piece(piece):
        raise BadText(len(text))
    return piece


def library_text(library):
    """Return the text of a library."""
    state = library.state
    lines = []
    for name in sorted(state.pieces):
        lines.append(f"template {name} {part_text(state.pieces[name])}")
        for position, tree in state.frozen[name]:
            lines.append(f"release {name} {position} {part_text(tree)}")
        for row in state.logs[name]:
            parts = [row[0], name, path_text(row[1]), *row[2:]]
            lines.append(" ".join(parts))
    return "\n".join(lines)


def read_library(text):
    """Return the library that a text says, without history."""
    lines = [] if text == "" else text.split("\n")
    rows = []
    for index, line in enumerate(lines):
        row = read_line(line)
        if row is None or not may_follow(row, rows):
            raise BadLine(index)
        rows.append(row)
    state = state_of(rows)
    refuse_positions(rows, state.logs)
    for row in rows:
        if row[0] == "template":
            state.refuse_unknown(uses_in(row[2]))
    state.settle(State())
    return library_with(state)


def read_line(line):
    """Return the parts of a line of a library, read, or None for a line of no such form."""
    word = line.split(" ")[0]
    parts = line.split(" ", SPACES.get(word, -1))
    if word not in RANKS or len(parts) < 3 or not is_name(parts[1]):
        return None
    if word == "template":
        return with_read(("template", parts[1]), read_piece, parts[2])
    if word == "release":
        position = count_in(parts[2])
        if len(parts) != 4 or position is None:
            return None
        return with_read(("release", parts[1], position), read_tree, parts[3])
    path = path_in(parts[2])
    if path is None or not all([is_name(part) for part in parts[3:]]):
        return None
    is_whole = len(parts) == 5 if word == "prop" else len(parts) == 4 and path != ()
    return (word, parts[1], path, *parts[3:]) if is_whole else None


def with_read(row, read, text):
    """Return a row with what a function reads from a text behind it, or None if that refuses the text."""
    try:
        return (*row, read(text))
    except BadText:
        return None


def may_follow(row, rows):
    """Return whether a row of a library may stand behind some others."""
    if row[0] == "template":
        return row[1] not in [other[1] for other in rows]
    if rows == [] or rows[-1][1] != row[1]:
        return False
    return RANKS[rows[-1][0]] <= RANKS[row[0]]


def state_of(rows):
    """Return the state that the rows of a library tell, of which nothing is shown yet."""
    state = State()
    for word, name, *rest in rows:
        if word == "template":
            state.begin(name, rest[0])
        elif word == "release":
            state.frozen[name] = (*state.frozen[name], tuple(rest))
        else:
            state.logs[name] = (*state.logs[name], (word, *rest))
    return state


def refuse_positions(rows, logs):
    """Refuse the first release that stands ahead of an earlier one, or behind the end of the log."""
    for index, row in enumerate(rows):
        if row[0] == "release":
            least = rows[index - 1][2] if rows[index - 1][0] == "release" else 0
            if not least <= row[2] <= len(logs[row[1]]):
                raise BadLine(index)
