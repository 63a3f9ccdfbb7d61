"""Marks: a truth for each thing; sets: rising lists of things, each once."""


def marks(many, some):
    """The marks, for so many things, of a list of things in any order."""
    listed = {}
    for thing in some:
        listed[thing] = True
    return [thing in listed for thing in range(many)]


def numbers(truths):
    """The set of the things of which the marks tell True."""
    return [thing for thing, truth in enumerate(truths) if truth]
