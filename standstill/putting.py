"""Rows put to plain rules over numbered things."""

from standstill.errors import Wide
from standstill.kinds import kinds_of, ways
from standstill.showing import shown_thing

MOST_RULES = 400
MOST_THINGS = 60
MOST_ITEMS = 60


def plain_of(rows):
    """The table of the things' texts and the plain program that the rows give; or BadName, or Wide."""
    rules = rules_of(rows, kinds_of(rows))
    places = places_in(rules)
    return (list(places), (len(places), [numbered(rule, places) for rule in rules]))


def rules_of(rows, kinds):
    """The plain rules that the rows give, with texts in the place of things; or Wide."""
    rules = []
    for row in rows:
        if row[0] != "kind":
            for names in names_by_ways(row[-1], kinds, {}):
                if not has_like(row[-2], names):
                    rules.extend(rules_by(row, names, kinds))
                    must_be_narrow(rules, MOST_RULES, "rules")
    return rules


def must_be_narrow(listed, most, what):
    if len(listed) > most:
        raise Wide(f"more than {most} {what}")


def names_by_ways(pairs, kinds, outer):
    """For each way of the pairs, the names of their variables, beside those of the outer ones."""
    variables = [variable for variable, kind in pairs]
    found = []
    for way in ways(pairs, kinds):
        names = dict(outer)
        names.update(dict(zip(variables, way)))
        found.append(names)
    return found


def has_like(body, names):
    """Whether both sides of an unlike-part are the same."""
    sides = [name_all(part[1:], names) for part in body if part[0] == "unlike"]
    return any([first == second for first, second in sides])


def name_all(args, names):
    """The args, with each variable exchanged for its name."""
    return [names.get(arg, arg) for arg in args]


def text_of(thing, names):
    return shown_thing((thing[0], name_all(thing[1], names)))


def rules_by(row, names, kinds):
    """The plain rules that the row gives by one way."""
    body = [put_part(part, names, kinds) for part in row[-2] if part[0] != "unlike"]
    if row[0] == "never":
        return [("never", None, body)]
    if row[0] == "choose":
        return choice(row[1], row[2], put_items(row[3], row[4], names, kinds), body)
    word = "make" if row[0] == "rule" else "may"
    return [(word, text_of(row[1], names), body)]


def choice(low, high, items, body):
    """The plain rules of a choice: each item may be, but neither too few nor too many of them."""
    rules = [("may", text, body) for text, worth in items]
    rules.append(("never", None, body + [("most", low - 1, items)]))
    rules.append(("never", None, body + [("least", high + 1, items)]))
    return rules


def put_part(part, names, kinds):
    """The part as a plain one, with texts in the place of things."""
    if part[0] == "is":
        return ("in", text_of(part[1], names))
    if part[0] == "not":
        return ("out", text_of(part[1], names))
    return (part[0], part[1], put_items(part[2], part[3], names, kinds))


def put_items(items, over, names, kinds):
    """The items, each by all ways of the pairs; or Wide."""
    found = []
    for thing, worth in items:
        found.extend([(text_of(thing, inner), worth) for inner in names_by_ways(over, kinds, names)])
    must_be_narrow(found, MOST_ITEMS, "items")
    return found


def places_in(rules):
    """The numbers of the things' texts, as they first come; or Wide."""
    places = {}
    for rule in rules:
        for text in texts_in(rule):
            places.setdefault(text, len(places))
    must_be_narrow(places, MOST_THINGS, "things")
    return places


def texts_in(rule):
    """The texts of the rule's things: the head's, then those of its parts."""
    texts = [] if rule[1] is None else [rule[1]]
    for part in rule[2]:
        if part[0] in ("in", "out"):
            texts.append(part[1])
        else:
            texts.extend([text for text, worth in part[2]])
    return texts


def numbered(rule, places):
    """The rule with numbers in the place of texts, and with lists of its own."""
    head = None if rule[1] is None else places[rule[1]]
    return (rule[0], head, [numbered_part(part, places) for part in rule[2]])


def numbered_part(part, places):
    if part[0] in ("in", "out"):
        return (part[0], places[part[1]])
    return (part[0], part[1], [(places[text], worth) for text, worth in part[2]])
