"""A set judged: what it breaks, what it builds, what holds up only itself."""

from standstill.marks import marks
from standstill.rules import body_holds, breaks


def first_broken(plain, some):
    """The least number of a rule that the set breaks, or None."""
    world = marks(plain[0], some)
    for number, rule in enumerate(plain[1]):
        if breaks(rule, world):
            return number
    return None


def chain(plain, some):
    """The set's things as they can be built from nothing, each with its rule's number."""
    world = marks(plain[0], some)
    rising = marks(plain[0], [])
    links = []
    link = link_behind(plain[1], rising, world)
    while link is not None:
        links.append(link)
        rising[link[0]] = True
        link = link_behind(plain[1], rising, world)
    return links


def link_behind(rules, rising, world):
    """The least thing that can be built now, with the least number of a rule for it, or None."""
    link = None
    for number, rule in enumerate(rules):
        if awaits(rule, rising, world) and body_holds(rule, rising, world):
            # Only a lesser thing takes the place, so the least number stays.
            if link is None or rule[1] < link[0]:
                link = (rule[1], number)
    return link


def awaits(rule, rising, world):
    """Whether the rule makes a thing of the world that hasn't been built yet."""
    thing = rule[1]
    return thing is not None and world[thing] and not rising[thing]


def built(plain, some):
    """The set of the things in the set's chain."""
    return sorted([thing for thing, number in chain(plain, some)])


def group(plain, some):
    """The set of the set's things that it doesn't build."""
    return left_over(some, chain(plain, some))


def left_over(some, links):
    """The things of the set that aren't in the chain."""
    reached = [thing for thing, number in links]
    return [thing for thing in some if thing not in reached]


def judged(plain, some):
    """Whether the set stands, with its chain, or what is in the way of it."""
    number = first_broken(plain, some)
    if number is not None:
        return ("broken", number)
    links = chain(plain, some)
    left = left_over(some, links)
    if left:
        return ("group", left)
    return ("stands", links)
