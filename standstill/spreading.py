"""Spreading: what rules, bars and loose things put on a sheet, step by step."""

from standstill.marks import marks
from standstill.parts import In, Out
from standstill.rules import body_of, guard_of


def guard_of_bar(bar):
    """Parts, as objects, that are all sure just on the sheets that fit the bar."""
    return [In(thing) if truth else Out(thing) for thing, truth in bar]


def pressed_by(guard, sheet):
    """The pairs (thing, truth) that keep the guard's parts from being all sure; None where they are."""
    pairs = None
    for part in guard:
        if not part.sure(sheet):
            tips = part.tips(sheet)
            # One thing must make all of them sure.
            pairs = tips if pairs is None else [pair for pair in pairs if pair in tips]
            if not pairs:
                return []
    if pairs is None:
        return None
    return [(thing, not truth) for thing, truth in pairs]


def lost_part(body, sheet, without):
    """The first part that is lost without the group, or None."""
    for part in body:
        if part.lost(sheet, without):
            return part
    return None


class Spreading:
    """A sheet on which things are put one by one. Its steps are tuples (pair, why);
    a why of None is that of a thing put by choice. A rule or a bar is known by its
    why, and looked at again when a pair comes that its parts want."""

    def __init__(self, plain, bars, sheet):
        self.sheet = list(sheet)
        self.steps = []
        self.bars = []
        self.guards = {}
        self.watches = {}
        self.waiting = []
        self.makers = [(rule[1], body_of(rule)) for rule in plain[1] if rule[1] is not None]
        for number, rule in enumerate(plain[1]):
            self.take_guard(("rule", number), guard_of(rule))
        for bar in bars:
            self.take_bar(bar)

    def take_guard(self, why, guard):
        self.guards[why] = guard
        for part in guard:
            for thing in part.named():
                self.watches.setdefault((thing, part.wants()), []).append(why)
        self.waiting.append(why)

    def take_bar(self, bar):
        """Takes one more bar, with the next number."""
        self.drop_wider(bar)
        why = ("bar", len(self.bars))
        self.bars.append(bar)
        self.take_guard(why, guard_of_bar(bar))

    def drop_wider(self, bar):
        """Looks no more at the bars that have all pairs of this one: it presses what they do, and more."""
        wider = self.watches.get(bar[0], []) if bar else []
        for pair in bar:
            wider = [why for why in wider if why in self.watches.get(pair, [])]
        for why in wider:
            if why[0] == "bar":
                for pair in self.bars[why[1]]:
                    self.watches[pair].remove(why)

    def put(self, thing, truth, why):
        self.sheet[thing] = truth
        self.steps.append(((thing, truth), why))
        self.waiting.extend(self.watches.get((thing, truth), []))

    def take_back(self, many):
        """Takes back all steps but the first so many, behind which nothing waited."""
        for pair, why in self.steps[many:]:
            self.sheet[pair[0]] = None
        self.steps = self.steps[:many]
        self.waiting = []

    def settle(self):
        """Puts all that is sure. Told is the why of an end, or None where there is none."""
        going = True
        while going:
            why = self.look_round()
            # Loose things take the longest to find, so all else goes ahead of them.
            if why is None:
                why = self.put_loose_out()
            going = why is None and len(self.waiting) > 0
        return why

    def look_round(self):
        """Puts what the waiting rules and bars press, until an end or until none waits."""
        while self.waiting:
            why = self.waiting.pop(0)
            pairs = pressed_by(self.guards[why], self.sheet)
            if pairs is None:
                return why
            # A pair stays pressed while the others are put.
            for thing, truth in pairs:
                self.put(thing, truth, why)
        return None

    def put_loose_out(self):
        """Puts the loose things out; the why of an end, where one of them is in."""
        without = self.loose_marks()
        things = [thing for thing, entry in enumerate(self.sheet) if without[thing] and entry is True]
        if things:
            return ("group", self.kernel(things[0], without))
        for thing, is_loose in enumerate(without):
            if is_loose:
                self.put(thing, False, ("group", self.kernel(thing, without)))
        return None

    def loose_marks(self):
        """The marks of the loose things."""
        without = [entry is not False for entry in self.sheet]
        used = []
        rest = self.makers
        going = True
        while going:
            before = len(used)
            unused = []
            for maker in rest:
                if without[maker[0]] and lost_part(maker[1], self.sheet, without) is None:
                    without[maker[0]] = False
                    used.append(maker)
                else:
                    unused.append(maker)
            rest = unused
            going = len(used) > before and any(without)
        # What built the things now will mostly do so again: in this order one round is enough.
        self.makers = used + rest
        return without

    def kernel(self, thing, without):
        """Of the loose things the one, and those that keep it loose."""
        found = [thing]
        place = 0
        while place < len(found):
            for part in self.lost_parts(found[place], without):
                found.extend([other for other in self.keeping(part, without) if other not in found])
            place += 1
        return sorted(found)

    def lost_parts(self, thing, without):
        """Of each body by which the thing could be made, a part that is lost without the group."""
        return [lost_part(body, self.sheet, without) for head, body in self.makers if head == thing]

    def keeping(self, part, without):
        """The things of the group without which the part wouldn't be lost."""
        if part.lost(self.sheet, marks(len(self.sheet), [])):
            return []
        return [thing for thing in part.named() if without[thing]]
