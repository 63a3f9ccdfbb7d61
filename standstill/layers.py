"""Layers: which things lean on which, and what grows where no ring leans against itself."""

from standstill.marks import marks, numbers
from standstill.parts import part_of
from standstill.rules import body_holds


def leanings(plain):
    """For each thing a dict: the things that it leans on, with whether it leans against them."""
    leans = [{} for thing in range(plain[0])]
    for rule in plain[1]:
        if rule[1] is not None:
            note_leanings(leans[rule[1]], rule[2])
    return leans


def note_leanings(leaned, body):
    """Puts down, for a body's head, what the body's parts name."""
    for told in body:
        against = told[0] in ("out", "most")
        for thing in part_of(told).named():
            # One part against a thing is enough, whatever the other parts say.
            leaned[thing] = against or leaned.get(thing, False)


def levels(plain):
    """The least levels of the things, or None where there are none."""
    leans = leanings(plain)
    heights = [0 for leaned in leans]
    # Without a ring, no way is longer than the things are many: what still
    # rises behind so many turns would rise for ever.
    for turn in range(plain[0] + 1):
        raised = [height_over(leaned, heights) for leaned in leans]
        if raised == heights:
            return heights
        heights = raised
    return None


def height_over(leaned, heights):
    """The least height that a thing must have over what it leans on."""
    return max([heights[thing] + 1 if leaned[thing] else heights[thing] for thing in leaned], default=0)


def ring(plain):
    """A ring of things, one of them leaning against the next, or None where there is none."""
    leans = leanings(plain)
    for thing in range(plain[0]):
        onward = ways_to(leans, thing)
        for other in leans[thing]:
            if leans[thing][other] and other in onward:
                return ring_of(thing, other, onward)
    return None


def ways_to(leans, goal):
    """For each thing from which leanings lead to the goal the next one on the way there."""
    onward = {goal: goal}
    reached = [goal]
    while reached:
        farther = []
        for thing, leaned in enumerate(leans):
            steps = [other for other in reached if other in leaned]
            if steps and thing not in onward:
                onward[thing] = steps[0]
                farther.append(thing)
        reached = farther
    return onward


def ring_of(thing, other, onward):
    """The ring from a thing over another one and onward, back to the first."""
    things = [thing]
    while other != thing:
        things.append(other)
        other = onward[other]
    return things


def grown(plain):
    """What grows level by level by the make-rules, or None where there are no levels."""
    heights = levels(plain)
    if heights is None:
        return None
    world = marks(plain[0], [])
    for height in sorted(set(heights)):
        rules = [rule for rule in plain[1] if rule[0] == "make" and heights[rule[1]] == height]
        grow(rules, world)
    return numbers(world)


def grow(rules, world):
    """Marks the heads of these rules, as long as a body holds whose head isn't in."""
    growing = True
    while growing:
        growing = False
        for rule in rules:
            if not world[rule[1]] and body_holds(rule, world, world):
                world[rule[1]] = True
                growing = True
