"""What a sheet makes sure: by rules, by loose things and by bars."""

from standstill.marks import marks, numbers
from standstill.rules import body_lost, body_of, surely_broken


def put_to(sheet, thing, truth):
    """A new sheet, with the thing put to the truth."""
    other = list(sheet)
    other[thing] = truth
    return other


def pressed(rule, sheet):
    """The pairs (thing, truth) that the rule presses on the sheet, by rising things."""
    pairs = []
    for thing in deciding(rule, sheet):
        if sheet[thing] is None:
            if surely_broken(rule, put_to(sheet, thing, False)):
                pairs.append((thing, True))
            elif surely_broken(rule, put_to(sheet, thing, True)):
                pairs.append((thing, False))
    return pairs


def deciding(rule, sheet):
    """A set of things that has all those in it which, put in or out, would break the rule."""
    if rule[0] == "may":
        return []
    if rule[0] == "make" and sheet[rule[1]] is not False:
        # Nothing but the head put out would break it.
        return [rule[1]]
    unsure = [part for part in body_of(rule) if not part.sure(sheet)]
    if not unsure:
        # It is broken as it is, and presses nothing.
        return []
    # The one thing must make all of them sure, so the first names it too.
    return unsure[0].named()


def loose(plain, sheet):
    """The greatest set of things that nothing but themselves could hold up."""
    without = [entry is not False for entry in sheet]
    shrinking = True
    while shrinking:
        shrinking = False
        for rule in plain[1]:
            if rests_outside(rule, sheet, without):
                without[rule[1]] = False
                shrinking = True
    return numbers(without)


def rests_outside(rule, sheet, without):
    """Whether the rule makes a thing of the group and may do so without the group."""
    thing = rule[1]
    return thing is not None and without[thing] and not body_lost(rule, sheet, without)


def fits(sheet, bar):
    """Whether all pairs of the bar are so on the sheet."""
    return not unfitted(sheet, bar)


def unfitted(sheet, bar):
    """The pairs of the bar that aren't so on the sheet."""
    return [pair for pair in bar if sheet[pair[0]] != pair[1]]


def right_why(plain, worlds, bars, sheet, why):
    """Whether the why tells rightly that no world but the listed ones is as the sheet has it."""
    if why[0] == "group":
        return right_group(plain, sheet, why[1])
    number = why[1]
    if why[0] == "rule":
        return has_number(plain[1], number) and surely_broken(plain[1][number], sheet)
    if why[0] == "bar":
        return has_number(bars, number) and fits(sheet, bars[number])
    return why[0] == "world" and has_number(worlds, number) and sheet == marks(plain[0], worlds[number])


def has_number(listed, number):
    """Whether something listed has the number."""
    return 0 <= number < len(listed)


def right_group(plain, sheet, things):
    """Whether one of the things is in and nothing but themselves could hold them up."""
    without = marks(plain[0], things)
    if any([rests_outside(rule, sheet, without) for rule in plain[1]]):
        return False
    return has_in(sheet, things)


def has_in(sheet, things):
    """Whether one of the things is in on the sheet."""
    return any([sheet[thing] is True for thing in things])


def right_step(plain, worlds, bars, sheet, step):
    """Whether the step can be done on the sheet."""
    pair = step[0]
    if pair is None:
        return right_why(plain, worlds, bars, sheet, step[1])
    if sheet[pair[0]] is not None:
        return False
    return right_why(plain, worlds, bars, put_to(sheet, pair[0], not pair[1]), step[1])


def spread(plain, bars, sheet):
    """The sheet behind all steps that rules, bars and loose things ask for, and these steps."""
    spreading = Spreading(plain, bars, sheet)
    going = True
    while going:
        done = len(spreading.steps)
        spreading.go_round()
        going = not spreading.ended and len(spreading.steps) > done
    return (spreading.sheet, spreading.steps)


class Spreading:
    """A sheet, with the steps that have been done on it."""

    def __init__(self, plain, bars, sheet):
        self.plain = plain
        self.bars = bars
        self.sheet = list(sheet)
        self.steps = []
        self.ended = False

    def put(self, thing, truth, why):
        self.sheet[thing] = truth
        self.steps.append(((thing, truth), why))

    def end(self, why):
        self.steps.append((None, why))
        self.ended = True

    def go_round(self):
        """Goes once through the rules and the bars, and to the loose things if these give no step."""
        done = len(self.steps)
        self.go_through_rules()
        if not self.ended:
            self.go_through_bars()
        # Loose things take the longest to find, so all else goes ahead of them.
        if len(self.steps) == done:
            self.put_loose_out()

    def go_through_rules(self):
        for number, rule in enumerate(self.plain[1]):
            if surely_broken(rule, self.sheet):
                self.end(("rule", number))
                return
            # A pair stays pressed while the others that the rule presses are put.
            for thing, truth in pressed(rule, self.sheet):
                self.put(thing, truth, ("rule", number))

    def go_through_bars(self):
        for number, bar in enumerate(self.bars):
            pairs = unfitted(self.sheet, bar)
            if not pairs:
                self.end(("bar", number))
                return
            if len(pairs) == 1 and self.sheet[pairs[0][0]] is None:
                self.put(pairs[0][0], not pairs[0][1], ("bar", number))

    def put_loose_out(self):
        things = loose(self.plain, self.sheet)
        if has_in(self.sheet, things):
            self.end(("group", things))
            return
        for thing in things:
            # Each step's list is the asker's own, so no two steps share one.
            self.put(thing, False, ("group", list(things)))
