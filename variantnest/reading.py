"""Reading texts of trees, tables and pieces, token by token."""

from variantnest.errors import BadText
from variantnest.tables import entry_key
from variantnest.values import LONGEST_NAME

WORDS = ("drop", "hide", "put", "set")


def is_letter(sign):
    """Return whether a character, or the empty string for none, is a letter."""
    return "a" <= sign <= "z"


def is_digit(sign):
    """Return whether a character, or the empty string for none, is a digit."""
    return "0" <= sign <= "9"


class Reader:
    """A text that is being read; at is the index of the first character that is not read yet.

    What may come next is known at each place, and whatever may come can be
    brought to an end. So the first character that may not come is the one that
    the document asks for.
    """

    def __init__(self, text, has_uses):
        self.text = text
        self.at = 0
        self.has_uses = has_uses

    def current(self):
        """Return the first character that is not read, or an empty string at the end."""
        return self.text[self.at:self.at + 1]

    def ahead(self):
        """Read spaces; return the character behind them, or an empty string at the end."""
        while self.current() == " ":
            self.at += 1
        return self.current()

    def take_sign(self, signs):
        """Read one of some signs."""
        sign = self.ahead()
        if sign == "" or sign not in signs:
            raise BadText(self.at)
        self.at += 1
        return sign

    def skip_sign(self, sign):
        """Read a sign if it comes next, and return whether it does."""
        if self.ahead() != sign:
            return False
        self.at += 1
        return True

    def take_name(self):
        """Read a name."""
        if not is_letter(self.ahead()):
            raise BadText(self.at)
        start = self.at
        while is_letter(self.current()):
            if self.at - start == LONGEST_NAME:
                raise BadText(self.at)
            self.at += 1
        return self.text[start:self.at]

    def take_word(self):
        """Read the word of an entry."""
        self.ahead()
        start = self.at
        while self.text[start:self.at] not in WORDS or is_letter(self.current()):
            longer = self.text[start:self.at + 1]
            if self.current() == "" or not any([word.startswith(longer) for word in WORDS]):
                raise BadText(self.at)
            self.at += 1
        return self.text[start:self.at]

    def take_integer(self, may_be_negative):
        """Read an integer without leading zeros."""
        sign = self.ahead()
        start = self.at
        if sign == "-" and may_be_negative:
            self.at += 1
            if self.current() == "0":
                raise BadText(self.at)
        if not is_digit(self.current()):
            raise BadText(self.at)
        # Behind 0 no other digit belongs to the number, and none may come.
        has_more = self.current() != "0"
        self.at += 1
        while has_more and is_digit(self.current()):
            self.at += 1
        return int(self.text[start:self.at])

    def take_path(self, may_be_root):
        """Read a path, which may be too long."""
        if may_be_root and self.skip_sign("."):
            return ()
        names = [self.take_name()]
        while self.skip_sign("/"):
            names.append(self.take_name())
        return tuple(names)

    def take_value(self):
        """Read a value."""
        if self.skip_sign("@"):
            return ("link", self.take_path(True))
        if is_letter(self.ahead()):
            return self.take_name()
        return self.take_integer(True)

    def take_part(self):
        """Read a tree, or where there are uses a piece."""
        if self.has_uses and self.ahead() == "<":
            return self.take_use()
        self.take_sign("{")
        props = []
        children = []
        if self.ahead() == "}":
            self.at += 1
        else:
            self.take_item(props, children)
            while self.take_sign(",}") == ",":
                self.take_item(props, children)
        rows = (in_order_of_names(props), in_order_of_names(children))
        return ("node", *rows) if self.has_uses else rows

    def take_item(self, props, children):
        """Read a prop, which does not stand behind children, or a child."""
        name = self.take_name()
        if children == [] and self.skip_sign("="):
            props.append((name, self.take_value()))
        else:
            children.append((name, self.take_part()))

    def take_use(self):
        """Read a use."""
        self.take_sign("<")
        name = self.take_name()
        release = self.take_integer(False)
        entries = self.take_table() if self.skip_sign(":") else ()
        self.take_sign(">")
        return ("use", name, release, entries)

    def take_table(self):
        """Read one or more entries."""
        entries = [self.take_entry()]
        while self.skip_sign(";"):
            entries.append(self.take_entry())
        return in_order_of_keys(entries)

    def take_entry(self):
        """Read an entry."""
        word = self.take_word()
        path = self.take_path(word in ("drop", "set"))
        if word == "hide":
            return ("hide", path)
        if word == "put":
            return ("put", path, self.take_part())
        name = self.take_name()
        return ("set", path, name, self.take_value()) if word == "set" else ("drop", path, name)

    def finish(self):
        """Refuse whatever comes behind what is read."""
        if self.ahead() != "":
            raise BadText(self.at)


def in_order_of_names(pairs):
    """Return pairs that begin with names in the order of these; a name may stand twice."""
    return tuple(sorted(pairs, key=lambda pair: pair[0]))


def in_order_of_keys(entries):
    """Return entries in the order of their keys; a key may stand twice."""
    return tuple(sorted(entries, key=entry_key))
