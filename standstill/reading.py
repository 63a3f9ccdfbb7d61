"""Rows read from text."""

from standstill.errors import NoRow
from standstill.words import is_name, is_number, is_variable, words_of


def read(text):
    """The rows of a text, or NoRow; rows without words are left out."""
    return [read_row(line) for line in text.split("\n") if words_of(line)]


def read_row(line):
    """The row that a text tells, as a tuple, or NoRow."""
    reader = Reader(words_of(line))
    row = reader.read_form()
    reader.must_end()
    return row


def at_most(listed, most):
    """What is listed, where it isn't too much; else NoRow."""
    if len(listed) > most:
        raise NoRow(f"more than {most} in a row")
    return listed


class Reader:
    """The words of a row, read one behind the other; each method reads one form."""

    def __init__(self, words):
        self.words = words
        self.place = 0

    def coming(self, behind):
        """The word that comes behind so many others; an empty text where there is none."""
        place = self.place + behind
        return self.words[place] if place < len(self.words) else ""

    def take(self):
        word = self.coming(0)
        self.place += 1
        return word

    def passes(self, word):
        """Whether this word comes; it is read then."""
        if self.coming(0) != word:
            return False
        self.place += 1
        return True

    def must_pass(self, word):
        if not self.passes(word):
            raise NoRow(f"{word} is missing")

    def must_end(self):
        if self.place < len(self.words):
            raise NoRow("something is left over behind the row")

    def read_form(self):
        word = self.take()
        if word == "kind":
            return ("kind", self.read_name(), self.read_names())
        if word in ("rule", "may"):
            return (word, self.read_thing(), self.read_if(), self.read_for())
        if word == "choose":
            return self.read_choose()
        if word == "never":
            return self.read_never()
        raise NoRow(f"no row begins with {word!r}")

    def read_choose(self):
        low = self.read_number()
        self.must_pass("to")
        high = self.read_number()
        self.must_pass("of")
        return ("choose", low, high, self.read_items(), self.read_over(), self.read_if(), self.read_for())

    def read_never(self):
        body = self.read_body()
        if all([part[0] == "unlike" for part in body]):
            raise NoRow("a never-row with unlike-parts alone")
        return ("never", body, self.read_for())

    def read_name(self):
        word = self.take()
        if not is_name(word):
            raise NoRow(f"{word!r} is no name")
        return word

    def read_names(self):
        names = [self.read_name()]
        while self.coming(0) != "":
            names.append(self.read_name())
        return at_most(names, 12)

    def read_variable(self):
        word = self.take()
        if not is_variable(word):
            raise NoRow(f"{word!r} is no variable")
        return word

    def read_number(self):
        word = self.take()
        if not is_number(word):
            raise NoRow(f"{word!r} is no number")
        return int(word)

    def read_arg(self):
        return self.read_variable() if is_variable(self.coming(0)) else self.read_name()

    def read_thing(self):
        name = self.read_name()
        return (name, self.read_args() if self.passes("(") else [])

    def read_args(self):
        args = [self.read_arg()]
        while self.passes(","):
            args.append(self.read_arg())
        self.must_pass(")")
        return at_most(args, 3)

    def read_if(self):
        return self.read_body() if self.passes("if") else []

    def read_body(self):
        body = [self.read_part()]
        while self.passes("and"):
            body.append(self.read_part())
        return body

    def read_part(self):
        if self.passes("not"):
            return ("not", self.read_thing())
        if self.coming(0) in ("least", "most"):
            return self.read_count()
        if self.coming(1) == "unlike":
            return self.read_unlike()
        return ("is", self.read_thing())

    def read_unlike(self):
        first = self.read_arg()
        self.must_pass("unlike")
        return ("unlike", first, self.read_arg())

    def read_count(self):
        word = self.take()
        number = self.read_number()
        self.must_pass("of")
        return (word, number, self.read_items(), self.read_over())

    def read_items(self):
        items = [self.read_item()]
        while self.passes(","):
            items.append(self.read_item())
        return items

    def read_item(self):
        worth = self.read_number() if is_number(self.coming(0)) else 1
        if worth < 0:
            raise NoRow("a worth below 0")
        return (self.read_thing(), worth)

    def read_over(self):
        return at_most(self.read_pairs(), 2) if self.passes("over") else []

    def read_for(self):
        return at_most(self.read_pairs(), 3) if self.passes("for") else []

    def read_pairs(self):
        pairs = [self.read_pair()]
        while self.passes(","):
            pairs.append(self.read_pair())
        return pairs

    def read_pair(self):
        variable = self.read_variable()
        self.must_pass("in")
        return (variable, self.read_name())
