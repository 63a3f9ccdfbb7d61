"""The names of rows: the kinds that they tell, the variables that they use."""

from standstill.errors import BadName
from standstill.words import is_variable


def kinds_of(rows):
    """The kinds of the rows, as tuples (name, names), or BadName where a name isn't as it must be."""
    kinds = []
    for row in rows:
        if row[0] == "kind":
            must_be_new(row, kinds)
            kinds.append((row[1], list(row[2])))
        else:
            must_be_known(row, kinds)
    return kinds


def must_be_new(row, kinds):
    """BadName where the kind was told ahead, or tells a name twice."""
    name = row[1]
    if name in [kind for kind, names in kinds]:
        raise BadName(f"the kind {name} is told twice")
    must_be_unlike(row[2])


def must_be_unlike(words):
    if len(set(words)) < len(words):
        raise BadName("a name or a variable is told twice")


def must_be_known(row, kinds):
    """BadName where the row has a variable or a kind that isn't told, or a variable told twice."""
    must_be_pairs(row[-1], [], kinds)
    for args, over in uses(row):
        must_be_pairs(over, row[-1], kinds)
        must_be_told(args, row[-1] + over)


def must_be_pairs(pairs, outer, kinds):
    """BadName where a variable is told twice, here or in the outer pairs, or a kind wasn't told ahead."""
    must_be_unlike([variable for variable, kind in outer + pairs])
    told = [kind for kind, names in kinds]
    for variable, kind in pairs:
        if kind not in told:
            raise BadName(f"the kind {kind} of {variable} isn't told ahead")


def must_be_told(args, pairs):
    """BadName where one of the args is a variable that no pair tells."""
    told = [variable for variable, kind in pairs]
    for arg in args:
        if is_variable(arg) and arg not in told:
            raise BadName(f"the variable {arg} isn't told")


def uses(row):
    """What the row's things and unlike-parts have as args: tuples (args, over), over being the pairs
    that tell variables for these alone."""
    found = [part_uses(part) for part in row[-2]]
    if row[0] == "choose":
        found.append((args_of(row[3]), row[4]))
    elif row[0] != "never":
        found.append((row[1][1], []))
    return found


def part_uses(part):
    if part[0] == "unlike":
        return ([part[1], part[2]], [])
    if part[0] in ("least", "most"):
        return (args_of(part[2]), part[3])
    return (part[1][1], [])


def args_of(items):
    args = []
    for thing, worth in items:
        args.extend(thing[1])
    return args


def ways(pairs, kinds):
    """All rows of names, one for each pair's variable from its kind; the first one's names go slowest."""
    names_of = dict(kinds)
    found = [[]]
    for variable, kind in pairs:
        longer = []
        for way in found:
            longer.extend([way + [name] for name in names_of[kind]])
        found = longer
    return found
