"""Parts: of what a rule's body is made, in four sorts."""


class Part:
    """One part of a body. The rising marks tell what has been built so far,
    the world's marks what is in at the end; a sheet tells in, out or None.

    What a part wants is the truth of its things that brings it nearer to being
    sure; what tips it, while it isn't sure, are the pairs (thing, truth) of
    which each would make it so."""

    def sure_by(self, sheet):
        """The things by whose entries it is sure, as far as it is."""
        wanted = self.wants()
        return [thing for thing in self.named() if sheet[thing] == wanted]

    def lost_by(self, sheet, without):
        """The things by whose entries it is lost without the group, as far as it is."""
        unwanted = not self.wants()
        things = [thing for thing in self.named() if sheet[thing] == unwanted]
        # The group stands for what is out alone: what is in must be so by its entry.
        return [thing for thing in things if unwanted or not without[thing]]


class In(Part):
    """A thing must have been built."""

    def __init__(self, thing):
        self.thing = thing

    def told(self):
        return ("in", self.thing)

    def named(self):
        return [self.thing]

    def wants(self):
        return True

    def holds(self, rising, world):
        return rising[self.thing]

    def sure(self, sheet):
        return sheet[self.thing] is True

    def tips(self, sheet):
        return [(self.thing, True)] if sheet[self.thing] is None else []

    def lost(self, sheet, without):
        return sheet[self.thing] is False or without[self.thing]


class Out(Part):
    """A thing must be out of the world."""

    def __init__(self, thing):
        self.thing = thing

    def told(self):
        return ("out", self.thing)

    def named(self):
        return [self.thing]

    def wants(self):
        return False

    def holds(self, rising, world):
        return not world[self.thing]

    def sure(self, sheet):
        return sheet[self.thing] is False

    def tips(self, sheet):
        return [(self.thing, False)] if sheet[self.thing] is None else []

    def lost(self, sheet, without):
        # A group is only kept from building: it puts nothing out of the world.
        return sheet[self.thing] is True


class Least(Part):
    """Things of a worth of the bound at least must have been built."""

    def __init__(self, bound, items):
        self.bound = bound
        # The asker may change the list that was handed in.
        self.pieces = list(items)

    def told(self):
        return ("least", self.bound, list(self.pieces))

    def named(self):
        return things_of(self.pieces)

    def wants(self):
        return True

    def holds(self, rising, world):
        return worth_in(self.pieces, rising) >= self.bound

    def sure(self, sheet):
        return worth_in(self.pieces, sheet) >= self.bound

    def tips(self, sheet):
        lack = self.bound - worth_in(self.pieces, sheet)
        return [(thing, True) for thing in heavy(self.pieces, sheet, lack)]

    def lost(self, sheet, without):
        return worth_left(self.pieces, sheet, without) < self.bound


class Most(Part):
    """Things of a worth of the bound at most may be in the world."""

    def __init__(self, bound, items):
        self.bound = bound
        # The asker may change the list that was handed in.
        self.pieces = list(items)

    def told(self):
        return ("most", self.bound, list(self.pieces))

    def named(self):
        return things_of(self.pieces)

    def wants(self):
        return False

    def holds(self, rising, world):
        return worth_in(self.pieces, world) <= self.bound

    def sure(self, sheet):
        return worth_not_out(self.pieces, sheet) <= self.bound

    def tips(self, sheet):
        lack = worth_not_out(self.pieces, sheet) - self.bound
        return [(thing, False) for thing in heavy(self.pieces, sheet, lack)]

    def lost(self, sheet, without):
        # A group is only kept from building: it puts nothing out of the world.
        return worth_in(self.pieces, sheet) > self.bound


def part_of(told):
    """The part that a tuple tells."""
    word = told[0]
    if word == "in":
        return In(told[1])
    if word == "out":
        return Out(told[1])
    if word == "least":
        return Least(told[1], told[2])
    return Most(told[1], told[2])


def things_of(items):
    """The set of the items' things, those of worth 0 too."""
    return sorted(set([thing for thing, worth in items]))


def worth_in(items, entries):
    """What the items come to whose things are in, on marks or on a sheet."""
    return sum([worth for thing, worth in items if entries[thing] is True])


def worth_not_out(items, sheet):
    """What the items come to whose things are in or still undecided."""
    return sum([worth for thing, worth in items if sheet[thing] is not False])


def worth_left(items, sheet, without):
    """What the items come to whose things are neither out nor in the group."""
    left = [item for item in items if not without[item[0]]]
    return worth_not_out(left, sheet)


def heavy(items, sheet, lack):
    """The undecided things whose items come to the lack or more."""
    weights = {}
    for thing, worth in items:
        if sheet[thing] is None:
            weights[thing] = weights.get(thing, 0) + worth
    return [thing for thing in weights if weights[thing] >= lack]
