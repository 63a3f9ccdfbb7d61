"""Parts: of what a rule's body is made, in four sorts."""


class Part:
    """One part of a body. The rising marks tell what has been built so far,
    the world's marks what is in at the end; a sheet tells in, out or None.

    What a part wants is the truth of its things that brings it nearer to being
    sure; what tips it, while it isn't sure, are the pairs (thing, truth) of
    which each would make it so. Where it is sure, or lost without a group, it is
    so by the entries of some things, the others being whatever they are; of
    these the first ones in the order that is handed in are told."""


class In(Part):
    """A thing must have been built."""

    def __init__(self, thing):
        self.thing = thing

    def told(self):
        return ("in", self.thing)

    def named(self):
        return [self.thing]

    def wants(self):
        return True

    def holds(self, rising, world):
        return rising[self.thing]

    def sure(self, sheet):
        return sheet[self.thing] is True

    def sure_by(self, sheet, order):
        return [self.thing]

    def tips(self, sheet):
        return [(self.thing, True)] if sheet[self.thing] is None else []

    def lost(self, sheet, without):
        return sheet[self.thing] is False or without[self.thing]

    def lost_by(self, sheet, without, order):
        return [] if without[self.thing] else [self.thing]


class Out(Part):
    """A thing must be out of the world."""

    def __init__(self, thing):
        self.thing = thing

    def told(self):
        return ("out", self.thing)

    def named(self):
        return [self.thing]

    def wants(self):
        return False

    def holds(self, rising, world):
        return not world[self.thing]

    def sure(self, sheet):
        return sheet[self.thing] is False

    def sure_by(self, sheet, order):
        return [self.thing]

    def tips(self, sheet):
        return [(self.thing, False)] if sheet[self.thing] is None else []

    def lost(self, sheet, without):
        # A group is only kept from building: it puts nothing out of the world.
        return sheet[self.thing] is True

    def lost_by(self, sheet, without, order):
        return [self.thing]


class Least(Part):
    """Things of a worth of the bound at least must have been built."""

    def __init__(self, bound, items):
        self.bound = bound
        # The asker may change the list that was handed in.
        self.pieces = list(items)

    def told(self):
        return ("least", self.bound, list(self.pieces))

    def named(self):
        return things_of(self.pieces)

    def wants(self):
        return True

    def holds(self, rising, world):
        return worth_in(self.pieces, rising) >= self.bound

    def sure(self, sheet):
        return worth_in(self.pieces, sheet) >= self.bound

    def sure_by(self, sheet, order):
        return enough(self.pieces, with_entry(order, sheet, True), self.bound)

    def tips(self, sheet):
        lack = self.bound - worth_in(self.pieces, sheet)
        return [(thing, True) for thing in heavy(self.pieces, sheet, lack)]

    def lost(self, sheet, without):
        return worth_not_out(outside(self.pieces, without), sheet) < self.bound

    def lost_by(self, sheet, without, order):
        left = outside(self.pieces, without)
        return enough(left, with_entry(order, sheet, False), worth_of(left) - self.bound + 1)


class Most(Part):
    """Things of a worth of the bound at most may be in the world."""

    def __init__(self, bound, items):
        self.bound = bound
        # The asker may change the list that was handed in.
        self.pieces = list(items)

    def told(self):
        return ("most", self.bound, list(self.pieces))

    def named(self):
        return things_of(self.pieces)

    def wants(self):
        return False

    def holds(self, rising, world):
        return worth_in(self.pieces, world) <= self.bound

    def sure(self, sheet):
        return worth_not_out(self.pieces, sheet) <= self.bound

    def sure_by(self, sheet, order):
        return enough(self.pieces, with_entry(order, sheet, False), worth_of(self.pieces) - self.bound)

    def tips(self, sheet):
        lack = worth_not_out(self.pieces, sheet) - self.bound
        return [(thing, False) for thing in heavy(self.pieces, sheet, lack)]

    def lost(self, sheet, without):
        # A group is only kept from building: it puts nothing out of the world.
        return worth_in(self.pieces, sheet) > self.bound

    def lost_by(self, sheet, without, order):
        return enough(self.pieces, with_entry(order, sheet, True), self.bound + 1)


def part_of(told):
    """The part that a tuple tells."""
    word = told[0]
    if word == "in":
        return In(told[1])
    if word == "out":
        return Out(told[1])
    if word == "least":
        return Least(told[1], told[2])
    return Most(told[1], told[2])


def things_of(items):
    """The set of the items' things, those of worth 0 too."""
    return sorted(set([thing for thing, worth in items]))


def worth_in(items, entries):
    """What the items come to whose things are in, on marks or on a sheet."""
    return sum([worth for thing, worth in items if entries[thing] is True])


def worth_not_out(items, sheet):
    """What the items come to whose things are in or still undecided."""
    return sum([worth for thing, worth in items if sheet[thing] is not False])


def worth_of(items):
    """What all the items come to."""
    return sum([worth for thing, worth in items])


def outside(items, without):
    """The items whose things aren't in the group."""
    return [item for item in items if not without[item[0]]]


def heavy(items, sheet, lack):
    """The undecided things whose items come to the lack or more."""
    weights = weights_of([item for item in items if sheet[item[0]] is None])
    return [thing for thing in weights if weights[thing] >= lack]


def weights_of(items):
    """What the items of each thing come to."""
    weights = {}
    for thing, worth in items:
        weights[thing] = weights.get(thing, 0) + worth
    return weights


def with_entry(things, sheet, truth):
    """Those of the things that have this truth on the sheet."""
    return [thing for thing in things if sheet[thing] == truth]


def enough(items, things, lack):
    """The first of the things whose items come to the lack or more, without those of no worth."""
    weights = weights_of(items)
    taken = []
    left = lack
    for thing in things:
        weight = weights.get(thing, 0)
        if left > 0 and weight > 0:
            taken.append(thing)
            left -= weight
    return taken
