"""Rows made up by chance, their words, and points 36 and 38 to 42 said again in the
plainest way, for the tests to hold the program against."""

import itertools
import random
import re

KEPT = "kind rule may choose never if and not unlike least most of to over in for".split()


def thing(name, *args):
    return (name, list(args))


# Rows made up by chance, but the same ones each time, as they are told.

def some_thing(dice):
    args = [dice.choice(("X", "Yy", "Zzzzzzzz", "a", "bcdefghi")) for count in range(dice.choice((0, 0, 1, 2, 3)))]
    return (dice.choice(("a", "b", "col", "abcdefgh", "ink")), args)


def some_pairs(dice, most):
    return [(dice.choice(("X", "Yy", "Zzzzzzzz")), dice.choice(("k", "hue", "abcdefgh")))
            for count in range(dice.randrange(most + 1))]


def some_number(dice):
    return dice.choice((0, 1, 2, -1, -7, 10 ** 29, 1 - 10 ** 30, 10 ** 30 - 1))


def some_items(dice):
    return [(some_thing(dice), dice.choice((1, 1, 0, 2, 10 ** 30 - 1))) for count in range(dice.randrange(1, 4))]


def some_part(dice):
    word = dice.choice(("is", "is", "not", "unlike", "least", "most"))
    if word in ("is", "not"):
        return (word, some_thing(dice))
    if word == "unlike":
        return (word, dice.choice(("X", "a")), dice.choice(("Yy", "b", "X")))
    return (word, some_number(dice), some_items(dice), some_pairs(dice, 2))


def some_body(dice, least):
    return [some_part(dice) for count in range(dice.randrange(least, 4))]


def some_row(dice):
    word = dice.choice(("kind", "rule", "may", "choose", "never"))
    if word == "kind":
        return (word, "hue", [dice.choice(("a", "b", "abcdefgh")) for count in range(dice.randrange(1, 13))])
    if word == "choose":
        return (word, some_number(dice), some_number(dice), some_items(dice), some_pairs(dice, 2),
                some_body(dice, 0), some_pairs(dice, 3))
    if word == "never":
        return (word, some_body(dice, 1) + [("not", some_thing(dice))] + some_body(dice, 0), some_pairs(dice, 3))
    return (word, some_thing(dice), some_body(dice, 0), some_pairs(dice, 3))


# The words of a row that was told.

def parted(runs, word):
    """Runs of words with a word between."""
    found = []
    for run in runs:
        found += ([word] if found else []) + run
    return found


def thing_words(one):
    return [one[0]] + (["("] + parted([[arg] for arg in one[1]], ",") + [")"] if one[1] else [])


def item_words(items):
    return parted([([] if worth == 1 else [str(worth)]) + thing_words(one) for one, worth in items], ",")


def pair_words(word, pairs):
    return [word] + parted([[variable, "in", kind] for variable, kind in pairs], ",") if pairs else []


def part_words(part):
    if part[0] == "is":
        return thing_words(part[1])
    if part[0] == "not":
        return ["not"] + thing_words(part[1])
    if part[0] == "unlike":
        return [part[1], "unlike", part[2]]
    return [part[0], str(part[1]), "of"] + item_words(part[2]) + pair_words("over", part[3])


def body_words(body):
    return parted([part_words(part) for part in body], "and")


def if_words(body):
    return ["if"] + body_words(body) if body else []


def row_words(row):
    if row[0] == "kind":
        return ["kind", row[1]] + row[2]
    if row[0] == "never":
        return ["never"] + body_words(row[1]) + pair_words("for", row[2])
    if row[0] == "choose":
        return (["choose", str(row[1]), "to", str(row[2]), "of"] + item_words(row[3]) + pair_words("over", row[4])
                + if_words(row[5]) + pair_words("for", row[6]))
    return [row[0]] + thing_words(row[1]) + if_words(row[2]) + pair_words("for", row[3])


# Point 36.

def glued(words):
    """The words as one text: where a blank stands, and where none."""
    text = ""
    before = ""
    within = False
    for word in words:
        if before and word not in (",", ")", "(") and before != "(" and not (within and before == ","):
            text += " "
        text += word
        within = word == "(" or (within and word != ")")
        before = word
    return text


# Point 38.

def has_twice(listed):
    return any(listed.count(one) > 1 for one in listed)


def is_a_variable(arg):
    return re.fullmatch("[A-Z][a-z]*", arg) is not None


def variables_in(things):
    return {arg for one in things for arg in one[1] if is_a_variable(arg)}


def names_are_right(rows):
    told = []
    for row in rows:
        if row[0] == "kind":
            if row[1] in told or has_twice(row[2]):
                return False
            told.append(row[1])
        elif not names_of_a_row_are_right(row, told):
            return False
    return True


def names_of_a_row_are_right(row, told):
    body, pairs = row[-2:]
    outer = [variable for variable, kind in pairs]
    if has_twice(outer) or any(kind not in told for variable, kind in pairs):
        return False
    counted = [(part[2], part[3]) for part in body if part[0] in ("least", "most")]
    counted += [(row[3], row[4])] if row[0] == "choose" else []
    for items, over in counted:
        inner = [variable for variable, kind in over]
        if has_twice(inner) or set(inner) & set(outer) or any(kind not in told for variable, kind in over):
            return False
        if variables_in([one for one, worth in items]) - set(inner) - set(outer):
            return False
    single = [part[1] for part in body if part[0] in ("is", "not")]
    single += [("", list(part[1:])) for part in body if part[0] == "unlike"]
    single += [row[1]] if row[0] in ("rule", "may") else []
    return not variables_in(single) - set(outer)


# Points 39 to 41.

def all_names(pairs, kinds):
    """For each way of the pairs a dict of the variables' names."""
    told = [[names for name, names in kinds if name == kind][0] for variable, kind in pairs]
    return [{variable: name for (variable, kind), name in zip(pairs, way)} for way in itertools.product(*told)]


def put_text(one, names):
    args = [names[arg] if arg in names else arg for arg in one[1]]
    return one[0] + ("(" + ",".join(args) + ")" if args else "")


def put_all_items(items, over, names, kinds):
    return [(put_text(one, {**names, **inner}), worth) for one, worth in items for inner in all_names(over, kinds)]


def put_a_part(part, names, kinds):
    if part[0] in ("is", "not"):
        return ({"is": "in", "not": "out"}[part[0]], put_text(part[1], names))
    return (part[0], part[1], put_all_items(part[2], part[3], names, kinds))


def put_a_row(row, names, kinds):
    body = [put_a_part(part, names, kinds) for part in row[-2] if part[0] != "unlike"]
    if row[0] == "choose":
        items = put_all_items(row[3], row[4], names, kinds)
        return ([("may", text, body) for text, worth in items]
                + [("never", None, body + [("most", row[1] - 1, items)]), ("never", None, body + [("least", row[2] + 1, items)])])
    if row[0] == "never":
        return [("never", None, body)]
    return [({"rule": "make", "may": "may"}[row[0]], put_text(row[1], names), body)]


def gives_something(row, names):
    sides = [[names.get(side, side) for side in part[1:]] for part in row[-2] if part[0] == "unlike"]
    return all(one != other for one, other in sides)


def texts_of_a_rule(rule):
    found = [] if rule[1] is None else [rule[1]]
    for part in rule[2]:
        found += [part[1]] if part[0] in ("in", "out") else [text for text, worth in part[2]]
    return found


def items_of_a_rule(rule):
    return [part[2] for part in rule[2] if part[0] in ("least", "most")]


def put_by_the_words(rows):
    """Table and plain program of rows, or the name of the refusal."""
    if not names_are_right(rows):
        return "BadName"
    kinds = [row[1:] for row in rows if row[0] == "kind"]
    rules = []
    for row in rows:
        if row[0] != "kind":
            for names in all_names(row[-1], kinds):
                rules += put_a_row(row, names, kinds) if gives_something(row, names) else []
    table = list(dict.fromkeys(text for rule in rules for text in texts_of_a_rule(rule)))
    if len(rules) > 400 or len(table) > 60 or any(len(items) > 60 for rule in rules for items in items_of_a_rule(rule)):
        return "Wide"
    return (table, (len(table), [put_numbers(rule, table) for rule in rules]))


def put_numbers(rule, table):
    parts = []
    for part in rule[2]:
        if part[0] in ("in", "out"):
            parts.append((part[0], table.index(part[1])))
        else:
            parts.append((part[0], part[1], [(table.index(text), worth) for text, worth in part[2]]))
    return (rule[0], None if rule[1] is None else table.index(rule[1]), parts)


# Rows with right names over six things at most: p, q, r(a), r(b), s(a), s(b).

KINDS = [("kind", "k", ["a", "b"]), ("kind", "m", ["b"])]


class Maker:
    """Makes rows by chance; with faults, now and then a variable or a kind that isn't told rightly."""

    def __init__(self, dice, faults=False):
        self.dice = dice
        self.faults = faults

    def fault(self):
        return self.faults and self.dice.randrange(25) == 0

    def pairs(self, variables, most):
        many = self.dice.choice((0, 0, 1, 1, 2, 3)[:most + 3])
        variables = variables[:many]
        if self.fault():
            variables = [self.dice.choice(("X", "Y", "Z", "W")) for variable in variables]
        kinds = ("k", "m", "none") if self.fault() else ("k", "m", "k")
        return [(variable, self.dice.choice(kinds)) for variable in variables]

    def arg(self, pairs):
        told = [variable for variable, kind in pairs]
        if self.fault():
            return self.dice.choice(("X", "Y", "Z", "W"))
        return self.dice.choice(told + told + ["a", "b"])

    def thing(self, pairs):
        name = self.dice.choice(("p", "q", "r", "r", "s", "s"))
        return (name, [self.arg(pairs)] if name in "rs" else [])

    def items(self, pairs):
        return [(self.thing(pairs), self.dice.choice((1, 1, 1, 0, 2))) for count in range(self.dice.randrange(1, 4))]

    def part(self, pairs):
        word = self.dice.choice(("is", "is", "is", "not", "not", "unlike", "least", "most"))
        if word in ("is", "not"):
            return (word, self.thing(pairs))
        if word == "unlike":
            return (word, self.arg(pairs), self.arg(pairs))
        over = self.pairs(["Z", "W"], 2)
        return (word, self.dice.randrange(-1, 4), self.items(pairs + over), over)

    def body(self, pairs, least):
        return [self.part(pairs) for count in range(self.dice.choice((least, 1, 2, 2, 3)))]

    def row(self):
        word = self.dice.choice(("rule", "rule", "rule", "may", "may", "choose", "never"))
        pairs = self.pairs(["X", "Y", "V"], 3)
        if word == "choose":
            over = self.pairs(["Z", "W"], 2)
            low = self.dice.randrange(-1, 3)
            return (word, low, low + self.dice.choice((-1, 0, 1, 1, 2)), self.items(pairs + over), over,
                    self.body(pairs, 0), pairs)
        if word == "never":
            body = self.body(pairs, 1) + [("is", self.thing(pairs))]
            return (word, body, pairs)
        return (word, self.thing(pairs), self.body(pairs, 0), pairs)

    def rows(self, most):
        return KINDS + [self.row() for count in range(self.dice.randrange(most + 1))]


def made_up_rows(seed, times, most=5):
    """So many lists of rows with right names, each of up to so many beside the kinds."""
    maker = Maker(random.Random(seed))
    return [maker.rows(most) for count in range(times)]


def text_of_rows(rows):
    return "\n".join(glued(row_words(row)) for row in rows)
