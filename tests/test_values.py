"""[4], [8]: names, paths and values."""

import unittest

from tests import samples
from tests.samples import EIGHT, HUGE, JUNK, NINE
from variantnest.values import is_name, is_path, is_value


class Names(unittest.TestCase):

    def test_names(self):
        for name in ("a", "z", "az", "rank", "abcdefgh", "zzzzzzzz", "link"):
            self.assertIs(is_name(name), True, name)

    def test_lengths(self):
        for length in range(12):
            self.assertIs(is_name("q" * length), 1 <= length <= 8)

    def test_other_signs(self):
        for code in range(300):
            sign = chr(code)
            self.assertIs(is_name(sign), "a" <= sign <= "z", sign)
            self.assertIs(is_name("x" + sign + "y"), "a" <= sign <= "z", sign)
            self.assertIs(is_name("xy" + sign), "a" <= sign <= "z", sign)

    def test_no_strings(self):
        for value in (1, True, None, (), [], ("a",), ["a"], ("a", "b"), b"a"):
            self.assertIs(is_name(value), False)


class Paths(unittest.TestCase):

    def test_paths(self):
        for path in ((), ("a",), ("a", "a"), ("lamp", "bulb"), EIGHT):
            self.assertIs(is_path(path), True)

    def test_length(self):
        self.assertIs(is_path(NINE), False)
        self.assertIs(is_path(NINE * 2), False)

    def test_no_paths(self):
        for path in ("", "a", "ab", None, 0, True, ("A",), ("",), ("abcdefghi",), (1,), (True,), ((),), (("a",),)):
            self.assertIs(is_path(path), False)

    def test_lists(self):
        for path in ([], ["a"], (["a"],), ("a", []), list(EIGHT)):
            self.assertIs(is_path(path), False)

    def test_one_wrong_name(self):
        for at in range(8):
            self.assertIs(is_path((*EIGHT[:at], "A", *EIGHT[at + 1:])), False)


class Values(unittest.TestCase):

    def test_integers(self):
        for value in (0, 1, -1, 7, HUGE, -HUGE):
            self.assertIs(is_value(value), True)

    def test_truth_values(self):
        self.assertIs(is_value(True), False)
        self.assertIs(is_value(False), False)

    def test_names(self):
        self.assertIs(is_value("on"), True)
        for value in ("", "On", "abcdefghi", "a b", "1"):
            self.assertIs(is_value(value), False)

    def test_links(self):
        for path in ((), ("a",), EIGHT):
            self.assertIs(is_value(("link", path)), True)

    def test_no_links(self):
        for value in (
            ("link", NINE), ("link", "a"), ("link", ("A",)), ("link",), ("link", (), ()), ("links", ()),
            ((), "link"), ("link", None), ("a", ()), (), (1,), ("link", ("link", ())),
        ):
            self.assertIs(is_value(value), False)

    def test_lists(self):
        for value in ([], ["link", ()], ("link", []), ("link", ["a"]), ["a"]):
            self.assertIs(is_value(value), False)

    def test_none(self):
        self.assertIs(is_value(None), False)


class AnyObject(unittest.TestCase):

    def test_all_say_the_same_as_the_plain_definitions(self):
        for value in (*JUNK, *((one, other) for one in JUNK for other in JUNK)):
            self.assertIs(is_name(value), samples.is_name(value))
            self.assertIs(is_path(value), samples.is_path(value))
            self.assertIs(is_value(value), samples.is_value(value))

    def test_deep(self):
        for kind in (tuple, list):
            for asked in (is_name, is_path, is_value):
                self.assertIs(asked(samples.deep(900, kind)), False)
                self.assertIs(asked(("link", samples.deep(900, kind))), False)
