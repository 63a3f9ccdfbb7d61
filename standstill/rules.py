"""Plain rules: tuples (word, head, parts)."""

from standstill.parts import Least, Out, part_of


def body_of(rule):
    """The rule's parts, as objects."""
    return [part_of(told) for told in rule[2]]


def guard_of(rule):
    """Parts, as objects, that are all sure just on the sheets that surely break the rule."""
    if rule[0] == "may":
        # No sheet breaks it, and no sheet has such a part sure.
        return [Least(1, [])]
    guard = body_of(rule)
    if rule[0] == "make":
        guard.append(Out(rule[1]))
    return guard


def named_in(rule):
    """The set of the things that the rule names, head and body."""
    things = []
    if rule[1] is not None:
        things.append(rule[1])
    for part in body_of(rule):
        things.extend(part.named())
    return sorted(set(things))


def makes(rule, thing):
    """Whether the rule is a make- or a may-rule for the thing."""
    return rule[0] in ("make", "may") and rule[1] == thing


def body_holds(rule, rising, world):
    """Whether all parts hold, by the rising marks and the world's."""
    return all([part.holds(rising, world) for part in body_of(rule)])


def body_sure(rule, sheet):
    """Whether all parts are sure on the sheet."""
    return all([part.sure(sheet) for part in body_of(rule)])


def body_lost(rule, sheet, without):
    """Whether some part is lost on the sheet, without the group so marked."""
    return any([part.lost(sheet, without) for part in body_of(rule)])


def breaks(rule, world):
    """Whether the world's marks break the rule."""
    if rule[0] == "may":
        return False
    if rule[0] == "make" and world[rule[1]]:
        return False
    return body_holds(rule, world, world)


def surely_broken(rule, sheet):
    """Whether the sheet breaks the rule, however it is filled up."""
    if rule[0] == "may":
        return False
    # An undecided head may still come in, and then nothing is broken.
    if rule[0] == "make" and sheet[rule[1]] is not False:
        return False
    return body_sure(rule, sheet)
