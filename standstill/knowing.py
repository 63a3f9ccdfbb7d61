"""What a sheet makes sure: by rules, by loose things and by bars."""

from standstill.marks import marks, numbers
from standstill.rules import body_lost, guard_of, surely_broken
from standstill.spreading import Spreading, pressed_by


def put_to(sheet, thing, truth):
    """A new sheet, with the thing put to the truth."""
    other = list(sheet)
    other[thing] = truth
    return other


def pressed(rule, sheet):
    """The pairs (thing, truth) that the rule presses on the sheet, by rising things."""
    return sorted(pressed_by(guard_of(rule), sheet) or [])


def loose(plain, sheet):
    """The greatest set of things that nothing but themselves could hold up."""
    return numbers(Spreading(plain, [], sheet).loose_marks())


def rests_outside(rule, sheet, without):
    """Whether the rule makes a thing of the group and may do so without the group."""
    thing = rule[1]
    return thing is not None and without[thing] and not body_lost(rule, sheet, without)


def fits(sheet, bar):
    """Whether all pairs of the bar are so on the sheet."""
    return all([sheet[thing] == truth for thing, truth in bar])


def right_why(plain, worlds, bars, sheet, why):
    """Whether the why tells rightly that no world but the listed ones is as the sheet has it."""
    if why[0] == "group":
        return right_group(plain, sheet, why[1])
    number = why[1]
    if why[0] == "rule":
        return has_number(plain[1], number) and surely_broken(plain[1][number], sheet)
    if why[0] == "bar":
        return has_number(bars, number) and fits(sheet, bars[number])
    return why[0] == "world" and has_number(worlds, number) and sheet == marks(plain[0], worlds[number])


def has_number(listed, number):
    """Whether something listed has the number."""
    return 0 <= number < len(listed)


def right_group(plain, sheet, things):
    """Whether one of the things is in and nothing but themselves could hold them up."""
    without = marks(plain[0], things)
    if any([rests_outside(rule, sheet, without) for rule in plain[1]]):
        return False
    return has_in(sheet, things)


def has_in(sheet, things):
    """Whether one of the things is in on the sheet."""
    return any([sheet[thing] is True for thing in things])


def right_step(plain, worlds, bars, sheet, step):
    """Whether the step can be done on the sheet."""
    pair = step[0]
    if pair is None:
        return right_why(plain, worlds, bars, sheet, step[1])
    if sheet[pair[0]] is not None:
        return False
    return right_why(plain, worlds, bars, put_to(sheet, pair[0], not pair[1]), step[1])


def spread(plain, bars, sheet):
    """The sheet behind all steps that rules, bars and loose things ask for, and these steps."""
    spreading = Spreading(plain, bars, sheet)
    why = spreading.settle()
    steps = spreading.steps
    if why is not None:
        steps.append((None, why))
    return (spreading.sheet, steps)
