"""All marks, sheets and sets of a few things, made-up programs, and the words of the
document said again in the plainest way, for the tests to hold the program against."""

import functools
import itertools
import random

HUGE = 10 ** 299


def all_marks(many):
    return [list(way) for way in itertools.product([False, True], repeat=many)]


def all_sheets(many):
    return [list(way) for way in itertools.product([False, None, True], repeat=many)]


def filled(sheet):
    """All marks that have the sheet's ins and none of its outs."""
    ways = [[False, True] if entry is None else [entry] for entry in sheet]
    return [list(way) for way in itertools.product(*ways)]


def subsets(some):
    """All sets of these things."""
    found = []
    for size in range(len(some) + 1):
        found += [list(way) for way in itertools.combinations(some, size)]
    return found


def all_sets(many):
    return subsets(range(many))


# Programs made up by chance, but the same ones each time.

def made_up_part(dice, many):
    word = dice.choice(("in", "in", "out", "least", "most"))
    if word in ("in", "out"):
        return (word, dice.randrange(many))
    items = [(dice.randrange(many), dice.randrange(4)) for count in range(dice.randrange(5))]
    return (word, dice.randrange(-1, 6), items)


def made_up_rule(dice, many, words):
    word = dice.choice(words)
    head = None if word == "never" else dice.randrange(many)
    longest = 4 if word == "never" else 3
    least = 1 if word == "never" else 0
    return (word, head, [made_up_part(dice, many) for count in range(dice.randrange(least, longest))])


def made_up_program(dice, many, rules, words=("make", "make", "may", "never")):
    if many == 0:
        return (0, [])
    return (many, [made_up_rule(dice, many, words) for count in range(rules)])


def programs(seed, times, many=4, rules=7, words=("make", "make", "may", "never")):
    """So many programs of up to so many things and rules."""
    dice = random.Random(seed)
    return [made_up_program(dice, dice.randrange(many + 1), dice.randrange(rules + 1), words)
            for count in range(times)]


def counting_program(seed):
    """A program of up to 8 things, each of which may be in, with counts over many of them."""
    dice = random.Random(seed)
    many = dice.randrange(4, 9)
    rules = [("may", thing, []) for thing in range(many)]
    for count in range(dice.randrange(2, 10)):
        word = dice.choice(("make", "never", "never"))
        head = None if word == "never" else dice.randrange(many)
        rules.append((word, head, [counting_part(dice, many) for more in range(dice.randrange(1, 3))]))
    return (many, rules)


def counting_part(dice, many):
    word = dice.choice(("in", "out", "least", "most"))
    if word in ("in", "out"):
        return (word, dice.randrange(many))
    items = [(thing, dice.choice((1, 1, 2, 3))) for thing in dice.sample(range(many), dice.randrange(2, many))]
    return (word, dice.randrange(sum(value for thing, value in items) + 1), items)


def large_program(seed, rules=40):
    """A program of 60 things, with numbers of many figures."""
    dice = random.Random(seed)
    plain = made_up_program(dice, 60, rules - 6)
    items = [(thing, HUGE + thing) for thing in range(60)]
    plain[1].extend([
        ("make", 59, [("least", 2 * HUGE, items)]),
        ("may", 58, [("most", 40 * HUGE, list(items))]),
        ("never", None, [("least", 59 * HUGE, items), ("out", 3)]),
        ("make", 0, []),
        ("may", 1, [("in", 0)]),
        ("make", 2, [("least", -HUGE, [])]),
    ])
    return plain


# The words of points 6 to 9, of tuples and Python's own sets.

def worth(part, things):
    return sum(value for thing, value in part[2] if thing in things)


def body_is_held(rule, rising, world):
    held = {
        "in": lambda part: part[1] in rising,
        "out": lambda part: part[1] not in world,
        "least": lambda part: worth(part, rising) >= part[1],
        "most": lambda part: worth(part, world) <= part[1],
    }
    return all(held[part[0]](part) for part in rule[2])


def is_broken(rule, world):
    if rule[0] == "may" or rule[1] in world:
        return False
    return body_is_held(rule, world, world)


def ins(sheet):
    return {thing for thing, entry in enumerate(sheet) if entry is True}


def outs(sheet):
    return {thing for thing, entry in enumerate(sheet) if entry is False}


def not_outs(sheet):
    return set(range(len(sheet))) - outs(sheet)


def is_surely_broken(rule, sheet):
    sure = {
        "in": lambda part: part[1] in ins(sheet),
        "out": lambda part: part[1] in outs(sheet),
        "least": lambda part: worth(part, ins(sheet)) >= part[1],
        "most": lambda part: worth(part, not_outs(sheet)) <= part[1],
    }
    if rule[0] == "may" or (rule[0] == "make" and rule[1] not in outs(sheet)):
        return False
    return all(sure[part[0]](part) for part in rule[2])


def body_is_lost(rule, sheet, without):
    without = set(without)
    lost = {
        "in": lambda part: part[1] in outs(sheet) | without,
        "out": lambda part: part[1] in ins(sheet),
        "least": lambda part: worth(part, not_outs(sheet) - without) < part[1],
        "most": lambda part: worth(part, ins(sheet)) > part[1],
    }
    return any(lost[part[0]](part) for part in rule[2])


def names_of(rule):
    """The things that a rule names, as one of Python's own sets."""
    named = set() if rule[1] is None else {rule[1]}
    for part in rule[2]:
        named |= {part[1]} if part[0] in ("in", "out") else {thing for thing, value in part[2]}
    return named


def makers(plain, things):
    """The rules that make one of the things [11]."""
    return [rule for rule in plain[1] if rule[0] in ("make", "may") and rule[1] in things]


def greatest(found):
    """Of a list of sets the one that has all the others in it."""
    union = sorted(set().union(*found))
    if union not in found:
        raise AssertionError("no greatest one")
    return union


def greatest_group(plain, some):
    """The group of a set by the words of point 14."""
    found = []
    for group in subsets(some):
        rest = set(some) - set(group)
        if not any(body_is_held(rule, rest, set(some)) for rule in makers(plain, group)):
            found.append(group)
    return greatest(found)


def greatest_loose(plain, sheet):
    """The loose things of a sheet by the words of point 20."""
    found = []
    for group in subsets(sorted(not_outs(sheet))):
        if all(body_is_lost(rule, sheet, group) for rule in makers(plain, group)):
            found.append(group)
    return greatest(found)


def standing(plain):
    """All sets that stand, by the words of point 15."""
    found = []
    for some in all_sets(plain[0]):
        if not any(is_broken(rule, set(some)) for rule in plain[1]) and greatest_group(plain, some) == []:
            found.append(some)
    return found


def agrees(some, sheet):
    """Whether a set has all of the sheet's ins and none of its outs."""
    return ins(sheet) <= set(some) and not outs(sheet) & set(some)


# The words of points 19 to 25.

def changed(sheet, thing, truth):
    return [truth if place == thing else entry for place, entry in enumerate(sheet)]


def pressed_by_the_words(rule, sheet):
    if is_surely_broken(rule, sheet):
        return []
    found = []
    for thing in sorted(names_of(rule)):
        for truth in (True, False):
            if sheet[thing] is None and is_surely_broken(rule, changed(sheet, thing, not truth)):
                found.append((thing, truth))
    return found


def pairs_that_do_not_fit(sheet, bar):
    return [(thing, truth) for thing, truth in bar if sheet[thing] is not truth]


def why_is_right(plain, worlds, bars, sheet, why):
    sort, told = why
    if sort == "rule":
        return told in range(len(plain[1])) and is_surely_broken(plain[1][told], sheet)
    if sort == "group":
        return (any(sheet[thing] is True for thing in told)
                and all(body_is_lost(rule, sheet, told) for rule in makers(plain, told)))
    if sort == "bar":
        return told in range(len(bars)) and pairs_that_do_not_fit(sheet, bars[told]) == []
    return told in range(len(worlds)) and all(
        sheet[thing] is (thing in worlds[told]) for thing in range(plain[0]))


def step_is_right(plain, worlds, bars, sheet, step):
    pair, why = step
    if pair is None:
        return why_is_right(plain, worlds, bars, sheet, why)
    return sheet[pair[0]] is None and why_is_right(
        plain, worlds, bars, changed(sheet, pair[0], not pair[1]), why)


def line_is_right(plain, worlds, bars, line):
    bar, steps = line
    things = [thing for thing, truth in bar]
    if any(things.count(thing) > 1 for thing in things) or not steps:
        return False
    if [step[0] is None for step in steps] != [False] * (len(steps) - 1) + [True]:
        return False
    sheet = [None] * plain[0]
    for thing, truth in bar:
        sheet = changed(sheet, thing, truth)
    for step in steps:
        if not step_is_right(plain, worlds, bars, sheet, step):
            return False
        if step[0] is not None:
            sheet = changed(sheet, step[0][0], step[0][1])
    return True


def paper_is_right(plain, worlds, paper):
    if not paper or paper[-1][0] != []:
        return False
    bars = [line[0] for line in paper]
    return all(line_is_right(plain, worlds, bars[:number], line) for number, line in enumerate(paper))


def steps_of_all_sorts(plain, bars, sheet):
    """The right steps of the sorts that point 24 tells, with the greatest group alone."""
    found = []
    for number, rule in enumerate(plain[1]):
        if is_surely_broken(rule, sheet):
            found.append((None, ("rule", number)))
        found += [(pair, ("rule", number)) for pair in pressed_by_the_words(rule, sheet)]
    for number, bar in enumerate(bars):
        left = pairs_that_do_not_fit(sheet, bar)
        if not left:
            found.append((None, ("bar", number)))
        if len(left) == 1 and sheet[left[0][0]] is None:
            found.append(((left[0][0], not left[0][1]), ("bar", number)))
    group = greatest_loose(plain, sheet)
    for thing in group:
        found.append((None if sheet[thing] else (thing, False), ("group", group)))
    return found


def made_up_bars(dice, many, most):
    """Up to so many bars, each thing at most once in a bar."""
    bars = []
    for count in range(dice.randrange(most + 1)):
        things = dice.sample(range(many), dice.randrange(min(many, 1), many + 1))
        bars.append([(thing, dice.choice((True, False))) for thing in things])
    return bars


# The words of points 13, 15 and 29, for sets of any many things.

def stands(plain, some):
    """Whether a set breaks no rule and is built from nothing."""
    world = set(some)
    if any(is_broken(rule, world) for rule in plain[1]):
        return False
    rising = set()
    while True:
        fresh = {rule[1] for rule in makers(plain, world - rising) if body_is_held(rule, rising, world)}
        if not fresh:
            return rising == world
        rising |= fresh


def chain_by_the_words(plain, some):
    """The chain of a set as point 13 tells it."""
    links = []
    while True:
        rising = {thing for thing, number in links}
        able = [(rule[1], number) for number, rule in enumerate(plain[1])
                if rule[0] != "never" and rule[1] in set(some) - rising
                and body_is_held(rule, rising, set(some))]
        if not able:
            return links
        links.append(min(able))


def judged_by_the_words(plain, some):
    """What is judged of a set, as points 12 to 15 tell it."""
    broken = [number for number, rule in enumerate(plain[1]) if is_broken(rule, set(some))]
    if broken:
        return ("broken", broken[0])
    group = greatest_group(plain, some)
    return ("group", group) if group else ("stands", chain_by_the_words(plain, some))


def comes_first(one, other):
    """Whether of two unlike sets the one has the least thing that only one of them has."""
    return min(set(one) ^ set(other)) in one


def in_order(worlds):
    """The sets in the order of point 29."""
    def compare(one, other):
        if one == other:
            return 0
        return -1 if comes_first(one, other) else 1
    return sorted(worlds, key=functools.cmp_to_key(compare))


def lists_in(told):
    """All lists within what was told, itself among them."""
    found = [told] if isinstance(told, list) else []
    if isinstance(told, (list, tuple)):
        for inner in told:
            found += lists_in(inner)
    return found


def share_a_list(*told):
    """Whether one list stands at two places of what was told."""
    found = [place for one in told for place in lists_in(one)]
    return len({id(one) for one in found}) < len(found)
