"""Asked of all worlds: whether a thing is in all of them, or in some."""

from standstill.rules import body_of
from standstill.seek import Seeking


def wanted(plain, thing):
    """The plain program of which only the worlds with the thing are left."""
    return with_never(plain, ("out", thing))


def unwanted(plain, thing):
    """The plain program of which only the worlds without the thing are left."""
    return with_never(plain, ("in", thing))


def with_never(plain, part):
    """The plain program with one rule more: the part must not hold."""
    rules = [own_rule(rule) for rule in plain[1]]
    rules.append(("never", None, [part]))
    return (plain[0], rules)


def own_rule(rule):
    """The same rule, with lists of its own."""
    return (rule[0], rule[1], [part.told() for part in body_of(rule)])


def in_all(plain, thing):
    """Whether the thing is in all worlds: no, with the first one without it, or yes, with a paper."""
    return first_or_paper(unwanted(plain, thing), "no", "yes")


def in_some(plain, thing):
    """Whether the thing is in some world: yes, with the first one that has it, or no, with a paper."""
    return first_or_paper(wanted(plain, thing), "yes", "no")


def first_or_paper(plain, if_one, if_none):
    """The word for the case that there is a world, with the first, or that for none, with a paper."""
    seeking = Seeking(plain)
    world = seeking.another()
    if world is None:
        return (if_none, seeking.paper)
    return (if_one, world)
