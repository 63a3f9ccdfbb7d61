"""Rows and plain rules shown as texts."""


def shown_row(row):
    """The row as a text, which reads as the same row."""
    return " ".join([row[0]] + behind_word(row))


def behind_word(row):
    """The texts that stand behind the row's first word, with a blank between."""
    word = row[0]
    if word == "kind":
        return [row[1]] + row[2]
    if word == "never":
        return [shown_body(row[1])] + if_any("for", shown_pairs(row[2]))
    if word == "choose":
        bounds = [str(row[1]), "to", str(row[2]), "of"]
        return bounds + shown_over(row[3], row[4]) + shown_end(row[5], row[6])
    return [shown_thing(row[1])] + shown_end(row[2], row[3])


def shown_end(body, pairs):
    """What stands last in a row whose body may be left out."""
    return if_any("if", shown_body(body)) + if_any("for", shown_pairs(pairs))


def if_any(word, text):
    """The word and the text behind it; nothing where the text is empty."""
    return [word, text] if text else []


def shown_thing(thing):
    """The thing as a text, without blanks."""
    name = thing[0]
    args = ",".join(thing[1])
    return f"{name}({args})" if args else name


def shown_body(body):
    return " and ".join([shown_part(part) for part in body])


def shown_part(part):
    word = part[0]
    if word == "is":
        return shown_thing(part[1])
    if word == "not":
        return " ".join([word, shown_thing(part[1])])
    if word == "unlike":
        return " ".join([part[1], word, part[2]])
    return " ".join([word, str(part[1]), "of"] + shown_over(part[2], part[3]))


def shown_over(items, over):
    """The items, and the pairs over which they go."""
    return [", ".join([shown_item(thing, worth) for thing, worth in items])] + if_any("over", shown_pairs(over))


def shown_item(thing, worth):
    text = shown_thing(thing)
    return text if worth == 1 else f"{worth} {text}"


def shown_pairs(pairs):
    return ", ".join([f"{variable} in {kind}" for variable, kind in pairs])


def shown_rule(rule, table):
    """The plain rule as the text of a row, with the things' texts from the table."""
    body = [row_part(part, table) for part in rule[2]]
    if rule[0] == "never":
        return shown_row(("never", body, []))
    word = "rule" if rule[0] == "make" else "may"
    return shown_row((word, row_thing(rule[1], table), body, []))


def row_part(part, table):
    """The plain part as a row has it."""
    if part[0] == "in":
        return ("is", row_thing(part[1], table))
    if part[0] == "out":
        return ("not", row_thing(part[1], table))
    return (part[0], part[1], [(row_thing(thing, table), worth) for thing, worth in part[2]], [])


def row_thing(thing, table):
    """The thing with its whole text as its name: brackets, if any, stand in it already."""
    return (table[thing], [])
