"""[5], [42]: the errors and their fields."""

import inspect
import unittest

from tests.samples import JUNK, deep, lists, tuples
from variantnest import errors
from variantnest.errors import VariantError

FIELDS = {
    "BadTree": (), "NoNode": ("path",), "BadEntry": ("index",), "TwoEntries": ("key",), "NoKey": ("key",),
    "UnknownTemplate": ("name",), "UnknownRelease": ("name", "number"), "Ring": ("circle",),
    "TooLarge": ("name",), "BadName": ("name",), "NameInUse": ("name",), "BadPiece": (), "InUse": ("user",),
    "IdInUse": ("path",), "NoUse": ("place",), "Frozen": ("name", "number"), "Rests": ("key",),
    "Outside": ("path",), "Clash": ("name", "key"), "NotPlain": ("name",), "NoProp": ("prop",),
    "PropInUse": ("prop",), "Older": ("number",), "NothingToUndo": (), "NothingToRedo": (),
    "BadStep": ("index",), "NoStep": ("index",), "Broken": ("index",), "BadText": ("at",), "BadLine": ("index",),
}


def error_class(name):
    return getattr(errors, name)


class Classes(unittest.TestCase):

    def test_there_are_these_and_no_others(self):
        found = {name for name, value in vars(errors).items() if inspect.isclass(value)}
        self.assertEqual(found, {"VariantError", *FIELDS})
        self.assertEqual(len(FIELDS), 30)

    def test_direct_subclasses(self):
        self.assertEqual(VariantError.__bases__, (ValueError,))
        for name in FIELDS:
            self.assertEqual(error_class(name).__bases__, (VariantError,), name)

    def test_defined_in_this_file(self):
        for name in ("VariantError", *FIELDS):
            self.assertEqual(error_class(name).__module__, "variantnest.errors")
            self.assertEqual(error_class(name).__name__, name)

    def test_parameters(self):
        for name, fields in FIELDS.items():
            self.assertEqual(tuple(inspect.signature(error_class(name)).parameters), fields, name)

    def test_the_base_is_made_like_a_value_error(self):
        for passed in ((), ("why",), ("why", 1), (["x"],)):
            self.assertEqual(VariantError(*passed).args, ValueError(*passed).args)
            self.assertEqual(str(VariantError(*passed)), str(ValueError(*passed)))


class Made(unittest.TestCase):

    def assert_fields(self, error, name, passed):
        self.assertEqual(type(error).__name__, name)
        self.assertEqual(vars(error), dict(zip(FIELDS[name], tuples(passed))))
        for field, value in zip(FIELDS[name], tuples(passed)):
            self.assertIs(type(getattr(error, field)), type(value))

    def test_by_position(self):
        for name, fields in FIELDS.items():
            for at, value in enumerate(JUNK):
                passed = (value, JUNK[at - 1])[:len(fields)]
                self.assert_fields(error_class(name)(*passed), name, passed)

    def test_by_keyword(self):
        for name, fields in FIELDS.items():
            for at, value in enumerate(JUNK):
                passed = (value, JUNK[at - 1])[:len(fields)]
                self.assert_fields(error_class(name)(**dict(zip(fields, passed))), name, passed)

    def test_lists_inside(self):
        error = errors.UnknownRelease(["a", ([], [1])], [[[]]])
        self.assertEqual((error.name, error.number), (("a", ((), (1,))), (((),),)))
        self.assertEqual(errors.Ring(circle=["a", "b"]).circle, ("a", "b"))
        self.assertIs(errors.BadEntry(True).index, True)

    def test_no_field_of_one_error_changes_another(self):
        one, other = errors.NoNode(("a",)), errors.NoNode(("b",))
        self.assertEqual((one.path, other.path), (("a",), ("b",)))

    def test_a_later_change_of_what_was_passed(self):
        passed = ["a", ["b"]]
        error = errors.NoNode(passed)
        passed[1].append("c")
        passed.append("d")
        self.assertEqual(error.path, ("a", ("b",)))
        self.assertEqual(passed, ["a", ["b", "c"], "d"])

    def test_deep(self):
        for name, fields in FIELDS.items():
            error = error_class(name)(*[deep(900, list) for _ in fields])
            for field in fields:
                self.assertEqual(getattr(error, field), deep(900))
            self.assertIsInstance(str(error), str)

    def test_raised_and_caught(self):
        for name, fields in FIELDS.items():
            with self.assertRaises(VariantError) as held:
                raise error_class(name)(*lists((("x",), 1))[:len(fields)])
            self.assert_fields(held.exception, name, (("x",), 1)[:len(fields)])

    def test_too_few_or_too_many(self):
        for name, fields in FIELDS.items():
            self.assertRaises(TypeError, error_class(name), *[1] * (len(fields) + 1))
            if fields:
                self.assertRaises(TypeError, error_class(name), *[1] * (len(fields) - 1))
