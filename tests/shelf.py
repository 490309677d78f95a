"""Short ways to libraries for the tests; the texts themselves have tests of their own."""

from tests.plain import Plain
from variantnest.errors import VariantError
from variantnest.library import Library
from variantnest.texts import piece_text, read_piece, read_table, read_tree, tree_text

P = read_piece
T = read_tree
TABLE = read_table


def E(text):
    """An entry with a piece."""
    return read_piece(f"<t 0: {text}>")[3][0]


def path(text):
    return () if text == "." else tuple(text.split("/"))


def shelf(*rows):
    """A library with templates, each in a row as NAME PIECE."""
    library = Library()
    for row in rows:
        name, _, text = row.partition(" ")
        library.make(name, read_piece(text))
    return library


def show(library, name, release=0):
    return tree_text(library.shown(name, release))


def text(library, name):
    return piece_text(library.definition(name))


def trees(library):
    return {name: library.shown(name) for name in library.names()}


def agrees(test, library):
    """What the templates show is what a plain reading of the definitions shows."""
    plain = Plain(library)
    for name in library.names():
        test.assertEqual(library.shown(name), plain.tree(name), name)


def keeps(test, library, error, fields, word, *passed):
    """A deed is refused with an error and its fields, and leaves the library as it is, with its history."""
    before = library.copy()
    shown = trees(library)
    for _ in range(2):
        with test.assertRaises(VariantError) as held:
            getattr(library, word)(*passed)
        test.assertIs(type(held.exception), error, held.exception)
        test.assertEqual(tuple(vars(held.exception).values()), fields)
    test.assertTrue(library == before)
    test.assertEqual(library.history(), before.history())
    test.assertEqual(trees(library), shown)
    other = library.copy()
    steps = []
    for some in (before, other):
        try:
            some.redo()
            steps.append(some.history())
        except VariantError:
            steps.append(None)
    test.assertEqual(*steps)
