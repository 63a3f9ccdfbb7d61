"""Layers: leaning [16], levels and rings [17], what grows [18], and [2]."""

import copy
import itertools
import unittest

from standstill.layers import grown, levels, ring
from ways import (HUGE, all_sets, body_is_held, greatest_group, is_broken, large_program, makers,
                  programs)

PROGRAMS = (programs(21, 200, many=4, rules=5) + programs(22, 100, many=4, rules=4, words=("make",))
            + programs(23, 100, many=5, rules=5, words=("make", "never")))


def leans_of(plain):
    """All (one, other, whether against) by the words of point 16."""
    found = set()
    for rule in makers(plain, range(plain[0])):
        for part in rule[2]:
            named = [part[1]] if part[0] in ("in", "out") else [thing for thing, value in part[2]]
            found |= {(rule[1], thing, part[0] in ("out", "most")) for thing in named}
    return found


def levels_by_the_words(plain):
    """The least levels, found among all that could be."""
    leans = leans_of(plain)
    fitting = []
    for way in itertools.product(range(max(plain[0], 1)), repeat=plain[0]):
        if all(way[one] >= way[other] + against for one, other, against in leans):
            fitting.append(way)
    if not fitting:
        return None
    least = tuple(min(way[thing] for way in fitting) for thing in range(plain[0]))
    if least not in fitting:
        raise AssertionError("no least ones")
    return list(least)


def is_ring(plain, things):
    """Whether these things are a ring, one of them leaning against the next."""
    leans = leans_of(plain)
    steps = list(zip(things, things[1:] + things[:1]))
    on = {(one, other) for one, other, against in leans}
    against = {(one, other) for one, other, against in leans if against}
    return (len(things) > 0 and len(set(things)) == len(things) and set(steps) <= on
            and len(set(steps) & against) > 0)


def grown_by_the_words(plain):
    heights = levels_by_the_words(plain)
    if heights is None:
        return None
    inside = set()
    for height in range(max(heights, default=0) + 1):
        while True:
            able = [rule[1] for rule in plain[1] if rule[0] == "make" and heights[rule[1]] == height
                    and rule[1] not in inside and body_is_held(rule, inside, inside)]
            if not able:
                break
            inside.add(able[-1])
    return sorted(inside)


class Levels(unittest.TestCase):
    def test_no_things(self):
        self.assertEqual(levels((0, [])), [])
        self.assertEqual(levels((0, [("never", None, [])])), [])
        self.assertIs(ring((0, [])), None)

    def test_no_rules(self):
        self.assertEqual(levels((3, [])), [0, 0, 0])
        self.assertIs(ring((3, [])), None)

    def test_several_heights(self):
        plain = (5, [("make", 0, [("out", 1)]), ("make", 1, [("most", 1, [(2, 1), (3, 1)])]),
                     ("make", 2, [("in", 3)]), ("may", 3, [("out", 4)])])
        self.assertEqual(levels(plain), [3, 2, 1, 1, 0])
        self.assertIs(ring(plain), None)

    def test_the_least_ones(self):
        plain = (4, [("make", 3, [("in", 2), ("out", 0)]), ("make", 2, [("least", 1, [(1, 1)])]),
                     ("make", 1, [("in", 2)])])
        self.assertEqual(levels(plain), [0, 0, 0, 1])

    def test_on_itself(self):
        plain = (2, [("make", 1, [("in", 1)]), ("may", 0, [("least", 2, [(0, 1), (1, 1)])])])
        self.assertEqual(levels(plain), [0, 0])
        self.assertIs(ring(plain), None)

    def test_against_itself(self):
        for part in (("out", 1), ("most", 3, [(1, 0)]), ("most", -1, [(1, 2)])):
            for word in ("make", "may"):
                plain = (2, [(word, 1, [part])])
                self.assertIs(levels(plain), None)
                self.assertEqual(ring(plain), [1])

    def test_never_rules_lean_on_nothing(self):
        plain = (2, [("never", None, [("out", 0), ("in", 1)]), ("make", 0, [("in", 1)]), ("make", 1, [("in", 0)])])
        self.assertEqual(levels(plain), [0, 0])
        self.assertIs(ring(plain), None)

    def test_a_ring_without_against(self):
        plain = (4, [("make", thing, [("in", (thing + 1) % 4)]) for thing in range(4)])
        self.assertEqual(levels(plain), [0, 0, 0, 0])
        self.assertIs(ring(plain), None)

    def test_a_ring_with_one_against(self):
        for place in range(4):
            rules = [("make", thing, [("in", (thing + 1) % 4)]) for thing in range(4)]
            rules[place] = ("may", place, [("out", (place + 1) % 4)])
            self.assertIs(levels((4, rules)), None)
            told = ring((4, rules))
            self.assertEqual(sorted(told), [0, 1, 2, 3])
            self.assertTrue(is_ring((4, rules), told))

    def test_against_out_of_a_ring_is_no_ring(self):
        plain = (3, [("make", 0, [("in", 1)]), ("make", 1, [("in", 0), ("out", 2)])])
        self.assertEqual(levels(plain), [1, 1, 0])
        self.assertIs(ring(plain), None)

    def test_two_rules_one_on_and_one_against(self):
        plain = (2, [("make", 0, [("out", 1)]), ("make", 0, [("in", 1)])])
        self.assertEqual(levels(plain), [1, 0])
        plain[1].reverse()
        self.assertEqual(levels(plain), [1, 0])
        self.assertEqual(levels((2, [("make", 0, [("in", 1), ("out", 1), ("in", 1)])])), [1, 0])

    def test_items_of_worth_0_count(self):
        self.assertEqual(levels((2, [("make", 0, [("most", 5, [(1, 0)])])])), [1, 0])
        self.assertEqual(levels((3, [("make", 0, [("least", 0, [(1, 0)])]), ("make", 1, [("out", 2)])])), [1, 1, 0])
        plain = (2, [("make", 0, [("most", 5, [(1, 0)])]), ("make", 1, [("least", 0, [(0, 0)])])])
        self.assertIs(levels(plain), None)
        self.assertTrue(is_ring(plain, ring(plain)))

    def test_the_other_rings_are_passed_over(self):
        plain = (5, [("make", 0, [("in", 1)]), ("make", 1, [("in", 0), ("in", 2)]), ("make", 2, [("in", 3)]),
                     ("make", 3, [("in", 2), ("in", 4)]), ("make", 4, [("out", 3)])])
        self.assertIs(levels(plain), None)
        told = ring(plain)
        self.assertTrue(is_ring(plain, told))
        self.assertEqual(sorted(told), [3, 4])

    def test_sixty_heights(self):
        rules = [("make", thing, [("out", thing + 1)]) for thing in range(59)]
        self.assertEqual(levels((60, rules)), list(range(59, -1, -1)))
        self.assertIs(ring((60, rules)), None)
        rules.append(("may", 59, [("in", 0)]))
        self.assertIs(levels((60, rules)), None)
        self.assertTrue(is_ring((60, rules), ring((60, rules))))
        self.assertEqual(len(ring((60, rules))), 60)

    def test_sixty_on_one_another(self):
        items = [(thing, HUGE) for thing in range(60)]
        rules = [("make", thing, [("least", HUGE, items)]) for thing in range(60)]
        self.assertEqual(levels((60, rules)), [0] * 60)
        self.assertIs(ring((60, rules)), None)
        rules.append(("make", 31, [("most", HUGE, [(30, 0)])]))
        self.assertIs(levels((60, rules)), None)
        self.assertTrue(is_ring((60, rules), ring((60, rules))))

    def test_levels_are_whole_numbers(self):
        for told in (levels((2, [("make", 0, [("out", 1)])])), ring((2, [("make", 1, [("out", 1)])]))):
            self.assertIs(type(told), list)
            self.assertEqual({type(one) for one in told}, {int})

    def test_by_the_words_of_the_document(self):
        with_levels = 0
        for plain in PROGRAMS:
            told = levels(plain)
            self.assertEqual(told, levels_by_the_words(plain))
            if told is None:
                self.assertTrue(is_ring(plain, ring(plain)))
            else:
                self.assertIs(ring(plain), None)
                with_levels += 1
        self.assertGreater(with_levels, 100)
        self.assertGreater(len(PROGRAMS) - with_levels, 50)

    def test_large_ones(self):
        for seed in range(8):
            plain = large_program(seed, rules=14 + 5 * seed)
            told = levels(plain)
            if told is None:
                self.assertTrue(is_ring(plain, ring(plain)))
            else:
                self.assertIs(ring(plain), None)
                for one, other, against in leans_of(plain):
                    self.assertGreaterEqual(told[one], told[other] + against)


class Grown(unittest.TestCase):
    def test_no_things_and_no_rules(self):
        self.assertEqual(grown((0, [])), [])
        self.assertEqual(grown((3, [])), [])
        self.assertEqual(grown((0, [("never", None, [])])), [])

    def test_level_by_level(self):
        plain = (4, [("make", 0, [("out", 1)]), ("make", 1, [("out", 2)]), ("make", 2, [("out", 3)])])
        self.assertEqual(grown(plain), [0, 2])

    def test_within_a_level_in_whatever_order(self):
        plain = (4, [("make", 0, [("in", 1)]), ("make", 1, [("in", 2)]), ("make", 2, [("in", 3)]), ("make", 3, [])])
        self.assertEqual(grown(plain), [0, 1, 2, 3])
        self.assertEqual(grown((4, plain[1][::-1])), [0, 1, 2, 3])

    def test_may_and_never_rules_are_not_looked_at(self):
        plain = (3, [("may", 0, []), ("make", 1, []), ("never", None, [("in", 1)]), ("make", 2, [("in", 0)])])
        self.assertEqual(grown(plain), [1])

    def test_may_rules_give_levels_too(self):
        self.assertIs(grown((1, [("may", 0, [("out", 0)])])), None)
        self.assertEqual(grown((2, [("may", 0, [("out", 1)]), ("make", 0, [])])), [0])

    def test_rings(self):
        self.assertEqual(grown((2, [("make", 0, [("in", 1)]), ("make", 1, [("in", 0)])])), [])
        self.assertIs(grown((2, [("make", 0, [("out", 1)]), ("make", 1, [("out", 0)])])), None)

    def test_bounds(self):
        items = [(1, 2), (2, 3), (2, 1)]
        rules = [("make", 1, []), ("make", 2, [])]
        self.assertEqual(grown((3, rules + [("make", 0, [("least", 6, items)])])), [0, 1, 2])
        self.assertEqual(grown((3, rules + [("make", 0, [("least", 7, items)])])), [1, 2])
        self.assertEqual(grown((3, rules + [("make", 0, [("most", 6, items)])])), [0, 1, 2])
        self.assertEqual(grown((3, rules + [("make", 0, [("most", 5, items)])])), [1, 2])
        self.assertEqual(grown((3, rules[:1] + [("make", 0, [("most", -1, [])])])), [1])

    def test_sixty_things_with_numbers_of_many_figures(self):
        rules = [("make", thing, [("least", thing * HUGE, [(lower, HUGE) for lower in range(thing)])])
                 for thing in range(59, -1, -1)]
        self.assertEqual(grown((60, rules)), list(range(60)))
        rules = [("make", thing, [("most", HUGE, [(higher, HUGE) for higher in range(thing + 1, 60)])])
                 for thing in range(60)]
        self.assertEqual(grown((60, rules)), [58, 59])

    def test_by_the_words_of_the_document(self):
        for plain in PROGRAMS:
            self.assertEqual(grown(plain), grown_by_the_words(plain))

    def test_the_only_one_of_its_sort(self):
        seen = 0
        for plain in PROGRAMS:
            if levels(plain) is not None and not any(rule[0] == "may" for rule in plain[1]):
                makes = [rule for rule in plain[1] if rule[0] == "make"]
                found = [some for some in all_sets(plain[0]) if greatest_group(plain, some) == []
                         and not any(is_broken(rule, set(some)) for rule in makes)]
                self.assertEqual([grown(plain)], found)
                seen += 1
        self.assertGreater(seen, 50)


class HandedInAndTold(unittest.TestCase):
    CALLS = (levels, ring, grown)

    def test_what_is_handed_in_stays(self):
        for plain in PROGRAMS[:60] + [large_program(3)]:
            kept = copy.deepcopy(plain)
            for call in self.CALLS:
                call(plain)
                self.assertEqual(plain, kept)

    def test_changing_what_was_told_changes_nothing(self):
        for call, rule in ((levels, ("make", 0, [])), (grown, ("make", 0, [])), (ring, ("make", 0, [("out", 0)]))):
            plain = (1, [rule])
            first = call(plain)
            kept = list(first)
            call(plain).append(9)
            self.assertEqual(first, kept)
            first.clear()
            self.assertEqual(call(plain), kept)

    def test_what_was_told_stays_when_the_program_is_changed(self):
        parts = []
        plain = (2, [("make", 0, parts)])
        told = [call(plain) for call in self.CALLS]
        parts.append(("out", 0))
        self.assertEqual(told, [[0, 0], None, [0]])
        self.assertEqual([call(plain) for call in self.CALLS], [None, [0], None])

    def test_argument_names(self):
        for call in self.CALLS:
            call(plain=(1, [("make", 0, [])]))


if __name__ == "__main__":
    unittest.main()
