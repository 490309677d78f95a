"""[1], [2], [22], [36], [37]: many deeds on many libraries, each one against a plain second reading."""

import unittest

from tests import samples
from tests.plain import (
    Plain, all_uses, called, child_renamed, entry_shown, links_shortened, own_prop_rename, own_rename, part,
    prop_renamed, replaced, written,
)
from tests.refusals import refusal
from tests.samples import key_of, paths_of, seeded, tree_of, tuples
from tests.stories import ALL, KEEPING, some_step
from variantnest.between import between, cost
from variantnest.desk import Desk
from variantnest.errors import VariantError
from variantnest.library import Library, differences, replay, without
from variantnest.texts import library_text, read_library


def do(library, step):
    return getattr(library, step[0])(*step[1:])


def logs(library):
    return {name: library.log(name) for name in library.names()}


def definitions(library):
    return {name: library.definition(name) for name in library.names()}


def shown(library):
    return {name: library.shown(name) for name in library.names()}


def leads_to(plain, piece, name):
    """Whether a piece uses a template live, directly or by others."""
    uses = [use[1] for use in all_uses(piece) if use[2] == 0]
    return any(use == name or leads_to(plain, plain.pieces[use], name) for use in uses)


class Story(unittest.TestCase):

    def told(self, library, step):
        """Do a step, with all that is to hold behind it; return whether it was done."""
        before = library.copy()
        try:
            would = library.would(step)
        except VariantError as error:
            with self.assertRaises(type(error)) as held:
                do(library, step)
            self.assertEqual(vars(held.exception), vars(error))
            self.unchanged(before, library)
            self.check_refusal(Plain(library), step, error)
            return False
        self.unchanged(before, library)
        self.assertIsNone(refusal(Plain(library), tuples(step)))
        result = do(library, step)
        self.assertEqual(library.history(), [*before.history(), tuples(step)])
        self.assertEqual(differences(before, library), would)
        old, new = Plain(before), Plain(library)
        for name in library.names():
            self.assertEqual(library.shown(name), new.tree(name), step)
            self.assertTrue(fits(library.shown(name)), step)
        for name in set(old.names) & set(new.names):
            if step[0] != "release" or name != step[1]:
                self.assertEqual(old.frozen[name], new.frozen[name])
        getattr(self, "check_" + step[0])(before, library, old, new, result, *tuples(step[1:]))
        self.undone(before, library)
        return True

    def check_refusal(self, plain, step, error):
        expected = refusal(plain, tuples(step))
        found = (type(error).__name__, *vars(error).values())
        if expected is not None:
            self.assertEqual(found, expected, step)
            return
        allowed = ("Ring", "TooLarge", "Clash") if step[0] == "upgrade" else ("Ring", "TooLarge")
        self.assertIn(found[0], allowed, step)
        pieces = behind(plain, step)
        if found[0] == "Ring" and pieces is not None:
            self.assertEqual(len(set(found[1])), len(found[1]))
            for name, used in zip(found[1], (*found[1][1:], found[1][0])):
                self.assertIn((used, 0), [use[1:3] for use in all_uses(pieces[name])])
        elif found[0] == "TooLarge" and pieces is not None:
            plain.found = {}
            plain.pieces = pieces
            self.assertEqual([name for name in sorted(pieces) if not fits(plain.tree(name))][:1], [found[1]], step)

    def unchanged(self, before, library):
        self.assertEqual(before, library)
        self.assertEqual(before.history(), library.history())

    def undone(self, before, library):
        behind = library.copy()
        library.undo()
        self.assertTrue(library == before)
        self.assertEqual(library.history(), before.history())
        self.assertEqual(shown(library), shown(before))
        library.redo()
        self.assertTrue(library == behind)
        self.assertEqual(library.history(), behind.history())
        self.assertEqual(shown(library), shown(behind))

    def same_but(self, before, library, *names):
        """Only these templates have other definitions, and no log is another one."""
        for name in library.names():
            if name not in names:
                self.assertEqual(before.definition(name), library.definition(name))
            if name in before.names():
                self.assertEqual(before.log(name), library.log(name))

    def check_make(self, before, library, old, new, result, name, piece):
        self.assertIsNone(result)
        self.assertEqual(library.names(), sorted([*before.names(), name]))
        self.assertEqual((library.definition(name), library.releases(name), library.log(name)), (piece, 0, []))
        self.same_but(before, library, name)

    def check_define(self, before, library, old, new, result, name, piece):
        self.assertIsNone(result)
        self.assertEqual(library.definition(name), piece)
        self.same_but(before, library, name)

    def check_remove(self, before, library, old, new, result, name):
        self.assertIsNone(result)
        self.assertEqual(library.names(), [some for some in before.names() if some != name])
        self.same_but(before, library)

    def check_rename_template(self, before, library, old, new, result, name, other):
        self.assertIsNone(result)
        back = library.copy()
        back.rename_template(other, name)
        self.assertEqual(back, before)
        trees = shown(before)
        trees[other] = trees.pop(name)
        self.assertEqual(shown(library), trees)
        self.assertEqual(library.log(other), before.log(name))
        self.assertNotIn(name, [use[1] for piece in definitions(library).values() for use in all_uses(piece)])

    def check_change(self, before, library, old, new, result, name, entry):
        self.assertIsNone(result)
        self.assertEqual(library.shown(name), samples.applied((entry_shown(old, entry),), before.shown(name)))
        self.assertEqual(library.definition(name), written(old, old.pieces[name], entry))
        self.same_but(before, library, name)

    def check_reset(self, before, library, old, new, result, name, place, key):
        self.assertIsNone(result)
        use = part(old.pieces[name], place)
        entries = tuple(entry for entry in use[3] if key_of(entry) != key)
        self.assertEqual(library.definition(name), replaced(old.pieces[name], place, (*use[:3], entries)))
        self.same_but(before, library, name)

    def check_push(self, before, library, old, new, result, name, place, key):
        use = part(old.pieces[name], place)
        behind = part(new.pieces[name], place)
        self.assertEqual(use[:3], behind[:3])
        entry = [entry for entry in use[3] if key_of(entry) == key][0]
        gone = [entry]
        if entry[0] == "put":
            gone = [other for other in use[3] if other[1][:len(key[1])] == key[1]]
        self.assertEqual(behind[3], tuple(other for other in use[3] if other not in gone))
        self.same_but(before, library, name, use[1])
        puts = [other[2] for other in use[3] if other[0] == "put"]
        if not any(leads_to(old, piece, use[1]) for piece in puts):
            rows = [{path: tree[path] for path in tree if path[:len(place)] == place} for tree in
                    (paths_of(before.shown(name)), paths_of(library.shown(name)))]
            self.assertEqual(*rows)
        # The table with what moved alone, as the place itself shows it, says what the used template shows now.
        moved = [other for other in gone if other[0] == "hide" or other == entry]
        moved = tuple(entry_shown_below(old, other, place) for other in moved)
        self.assertEqual(library.shown(use[1]), samples.applied(moved, before.shown(use[1])))
        lower = old.pieces[use[1]]
        is_there = key[0] == "put" and key[1] in old.rows(use[1])
        for other in [other for other in gone if other == entry or other[:2] == ("hide", key[1]) and is_there]:
            lower = written(old, lower, links_shortened(other, len(place)))
        self.assertEqual(library.definition(use[1]), lower)
        names = [some for some in library.names() if before.shown(some) != library.shown(some)]
        self.assertEqual(result, [(some, between(before.shown(some), library.shown(some))) for some in names])

    def check_extract(self, before, library, old, new, result, name, path, other):
        self.assertIsNone(result)
        self.assertEqual(part(new.pieces[name], path), ("use", other, 0, ()))
        self.assertEqual(library.names(), sorted([*before.names(), other]))
        self.assertEqual(differences(before, library), [])
        self.same_but(before, library, name, other)
        self.assertEqual((library.releases(other), library.log(other)), (0, []))
        back = library.copy()
        back.inline(name, path)
        self.assertEqual(shown(back), shown(library))

    def check_inline(self, before, library, old, new, result, name, place):
        self.assertIsNone(result)
        self.assertEqual(shown(before), shown(library))
        self.assertEqual(all_uses(part(new.pieces[name], place)), [])
        self.assertEqual(replaced(new.pieces[name], place, part(old.pieces[name], place)), old.pieces[name])
        self.same_but(before, library, name)

    def check_share(self, before, library, old, new, result, names, other):
        self.assertIsNone(result)
        self.assertEqual(differences(before, library), [])
        self.same_but(before, library, other, *names)
        self.assertEqual(all_uses(library.definition(other)), [])
        for name in names:
            word, used, release, entries = library.definition(name)
            self.assertEqual((word, used, release), ("use", other, 0))
            table = tuple(entry_shown(new, entry) for entry in entries)
            self.assertEqual(table, between(library.shown(other), library.shown(name)))
            self.assertEqual([use[1] for use in all_uses(library.definition(name))], [other])
        total = [sum(cost(between(base, before.shown(name))) for name in set(names))
                 for base in (library.shown(other), *[before.shown(name) for name in names])]
        self.assertEqual(min(total), total[0])

    def check_rename_child(self, before, library, old, new, result, name, path, other):
        self.assertIsNone(result)
        found = old.reached({name: {path}}, False)
        pieces = {some: child_renamed(old.pieces[some], some, found, other) for some in old.names}
        pieces[name] = own_rename(pieces[name], path, other)
        self.assertEqual(pieces, new.pieces)
        self.check_logs(before, library, found, lambda path: ("child", path, other))
        for some in old.names:
            paths = {called(path, found[some], other) for path in old.rows(some)}
            self.assertEqual(paths, set(new.rows(some)))

    def check_rename_prop(self, before, library, old, new, result, name, path, prop, other):
        self.assertIsNone(result)
        found = old.reached({name: {path}}, True)
        pieces = {some: prop_renamed(old.pieces[some], found, prop, other) for some in old.names}
        pieces[name] = own_prop_rename(pieces[name], path, prop, other)
        self.assertEqual(pieces, new.pieces)
        self.check_logs(before, library, found, lambda path: ("prop", path, prop, other))
        for some in old.names:
            rows = {path: dict(props) for path, props in old.rows(some).items()}
            for path in found[some]:
                if prop in rows.get(path, {}):
                    rows[path][other] = rows[path].pop(prop)
            self.assertEqual(rows, new.rows(some))

    def check_logs(self, before, library, found, row):
        for name in library.names():
            rows = [row(path) for path in sorted(found[name], reverse=True)]
            self.assertEqual(library.log(name), before.log(name) + rows)

    def check_release(self, before, library, old, new, result, name):
        self.assertEqual(result, before.releases(name) + 1)
        self.assertEqual(library.releases(name), result)
        self.assertEqual(library.shown(name, result), before.shown(name))
        self.assertEqual(differences(before, library), [])
        self.same_but(before, library)

    def check_upgrade(self, before, library, old, new, result, name, place, number):
        use = part(old.pieces[name], place)
        behind = part(new.pieces[name], place)
        self.assertEqual(behind[:3], (*use[:2], number))
        self.assertEqual(len(behind[3]), len(use[3]))
        self.assertLessEqual(set(result), {key_of(entry) for entry in behind[3] if entry[0] in ("set", "drop")})
        self.assertEqual(result, sorted(result))


def entry_shown_below(plain, entry, place):
    """What an entry of a use at a place shows, with links that count from there."""
    if entry[0] == "put":
        rows = plain.piece_rows(entry[2], place + entry[1])
        return ("put", entry[1], tree_of({path: shortened(rows[path], place) for path in rows}))
    if entry[0] == "set":
        return (*entry[:3], shortened({"x": entry[3]}, place)["x"])
    return entry


def shortened(props, place):
    return {
        name: ("link", worth[1][len(place):]) if isinstance(worth, tuple) else worth for name, worth in props.items()
    }


def behind(plain, step):
    """The definitions behind a step, where they are plainly said."""
    word, name = step[:2]
    if word in ("make", "define"):
        return {**plain.pieces, name: step[2]}
    if word == "reset":
        use = part(plain.pieces[name], step[2])
        entries = tuple(entry for entry in use[3] if key_of(entry) != step[3])
        return {**plain.pieces, name: replaced(plain.pieces[name], step[2], (*use[:3], entries))}
    return None


def fits(tree):
    """Whether a template may show a tree."""
    rows = paths_of(tree)
    links = [worth[1] for props in rows.values() for worth in props.values() if isinstance(worth, tuple)]
    return len(rows) <= 400 and all(len(path) <= 8 for path in [*rows, *links])


class Stories(Story):

    def story(self, number, length, words=ALL):
        rng = seeded(number)
        library = Library()
        counts = {}
        for _ in range(length):
            step = some_step(rng, library, words)
            done = self.told(library, step)
            counts[step[0], done] = counts.get((step[0], done), 0) + 1
        return library, counts

    def end(self, library):
        """What holds at the end of a story."""
        self.assertEqual(replay(library.history()), library)
        self.assertEqual(replay(library.history()).history(), library.history())
        again = read_library(library_text(library))
        self.assertEqual(again, library)
        self.assertEqual(again.history(), [])
        self.assertEqual(library_text(again), library_text(library))
        states = [library.copy()]
        while library.history():
            library.undo()
            states.append(library.copy())
        self.assertEqual(library, Library())
        for state in states[-2::-1]:
            library.redo()
            self.assertEqual(library, state)
            self.assertEqual(library.history(), state.history())
            self.assertEqual(shown(library), shown(state))

    def test_stories(self):
        total = {}
        for number in range(100):
            library, counts = self.story(number, 40, KEEPING if number % 2 else ALL)
            self.end(library)
            for key in counts:
                total[key] = total.get(key, 0) + counts[key]
        for word in (
            "make", "define", "remove", "rename_template", "change", "reset", "push", "extract", "inline", "share",
            "rename_child", "rename_prop", "release", "upgrade",
        ):
            self.assertGreater(total.get((word, True), 0), 10, word)
