"""Worlds sought [27] to [30], the promise [3] of plain programs, and [2]."""

import copy
import random
import unittest

from standstill.judge import judged
from standstill.papers import right_paper
from standstill.seek import worlds
from ways import (HUGE, all_sets, comes_first, counting_program, in_order, large_program, made_up_program,
                  paper_is_right, programs, share_a_list, standing, stands)

PROGRAMS = (programs(61, 250, many=3, rules=6) + programs(62, 200, many=4, rules=8)
            + programs(63, 100, many=4, rules=8, words=("make",))
            + programs(64, 100, many=4, rules=8, words=("may", "may", "never"))
            + programs(65, 60, many=5, rules=12) + programs(66, 60, many=5, rules=9, words=("make", "may")))


def free(many):
    """Each thing may be in or not."""
    return (many, [("may", thing, []) for thing in range(many)])


def one_of_two(many):
    """Of each two things one is in, by what is out."""
    rules = []
    for thing in range(0, many, 2):
        rules += [("make", thing, [("out", thing + 1)]), ("make", thing + 1, [("out", thing)])]
    return (many, rules)


def just(number, things):
    """Never-rules: so many of the things are in."""
    items = [(thing, 1) for thing in things]
    return [("never", None, [("most", number - 1, items)]), ("never", None, [("least", number + 1, items)])]


def queens(size):
    """So many queens on a board, none in the way of another one."""
    fields = [(row, column) for row in range(size) for column in range(size)]
    rules = free(size * size)[1]
    for line in range(size):
        rules += just(1, [place for place, field in enumerate(fields) if field[0] == line])
        rules += just(1, [place for place, field in enumerate(fields) if field[1] == line])
    for slope in (-1, 1):
        for line in {row + slope * column for row, column in fields}:
            things = [place for place, field in enumerate(fields) if field[0] + slope * field[1] == line]
            rules.append(("never", None, [("least", 2, [(thing, 1) for thing in things])]))
    return (size * size, rules)


PETERSEN = ([(node, (node + 1) % 5) for node in range(5)] + [(node, node + 5) for node in range(5)]
            + [(5 + node, 5 + (node + 2) % 5) for node in range(5)])


def hues(edges, nodes, many):
    """Each node has one of so many hues, never that of a neighbour."""
    rules = free(nodes * many)[1]
    for node in range(nodes):
        rules += just(1, range(node * many, node * many + many))
    for one, other in edges:
        rules += [("never", None, [("in", one * many + hue), ("in", other * many + hue)]) for hue in range(many)]
    return (nodes * many, rules)


def tours(ways, nodes):
    """A tour over all nodes, from node 0 on: what is reached must rest on nothing."""
    rules = free(len(ways))[1]
    for node in range(nodes):
        rules += just(1, [place for place, way in enumerate(ways) if way[0] == node])
        rules += just(1, [place for place, way in enumerate(ways) if way[1] == node])
        rules.append(("never", None, [("out", len(ways) + node)]))
    for place, (start, end) in enumerate(ways):
        body = [("in", place)] if start == 0 else [("in", len(ways) + start), ("in", place)]
        rules.append(("make", len(ways) + end, body))
    return (len(ways) + nodes, rules)


def pigeons(many, holes):
    """Each pigeon in a hole, no two in one."""
    rules = free(many * holes)[1]
    for pigeon in range(many):
        items = [(pigeon * holes + hole, 1) for hole in range(holes)]
        rules.append(("never", None, [("most", 0, items)]))
    for hole in range(holes):
        items = [(pigeon * holes + hole, 1) for pigeon in range(many)]
        rules.append(("never", None, [("least", 2, items)]))
    return (many * holes, rules)


class Case(unittest.TestCase):
    def seek(self, plain, most):
        """Seeks, and looks whether what is told has its form and its paper is right."""
        told = worlds(plain, most)
        self.assertIs(type(told), tuple)
        found, whole, paper = told
        self.assertIs(type(found), list)
        self.assertIs(type(paper), list)
        self.assertLessEqual(len(found), most)
        for world in found:
            self.assertIs(type(world), list)
            self.assertTrue(all(type(thing) is int for thing in world))
        if whole is True:
            self.kinds_of_paper(paper)
            self.assertIs(right_paper(plain, found, paper), True)
            self.assertTrue(paper_is_right(plain, found, paper))
        else:
            self.assertIs(whole, False)
            self.assertEqual(paper, [])
            self.assertEqual(len(found), most)
        return found, whole

    def kinds_of_paper(self, paper):
        """Looks whether all that the paper tells is of the kinds of points 21 to 25."""
        for line in paper:
            self.assertEqual([type(line)] + [type(part) for part in line], [tuple, list, list])
            for step in line[1]:
                self.assertEqual((type(step), type(step[1]), len(step), len(step[1])), (tuple, tuple, 2, 2))
            for pair in line[0] + [step[0] for step in line[1][:-1]]:
                self.assertEqual([type(pair)] + [type(part) for part in pair], [tuple, int, bool])
            for sort, told in [step[1] for step in line[1]]:
                self.assertIn(sort, ("rule", "group", "bar", "world"))
                self.assertIs(type(told), list if sort == "group" else int)
                self.assertTrue(sort != "group" or all(type(thing) is int for thing in told))

    def seek_large(self, plain, most):
        """Of sets of too many things to go through them all: those told stand, and are told in order."""
        found, whole = self.seek(plain, most)
        for world in found:
            self.assertTrue(stands(plain, world))
            self.assertEqual(judged(plain, world)[0], "stands")
        for one, other in zip(found, found[1:]):
            self.assertTrue(comes_first(one, other))
        return found, whole


class Asked(Case):
    def test_no_things(self):
        self.assertEqual(worlds((0, [])), ([[]], True, worlds((0, []))[2]))
        self.assertEqual(self.seek((0, []), 0), ([], False))
        self.assertEqual(self.seek((0, []), 1), ([[]], True))
        self.assertEqual(self.seek((0, []), 7), ([[]], True))
        for most in (0, 1, 2):
            self.assertEqual(self.seek((0, [("never", None, [])]), most), ([], True))
            self.assertEqual(self.seek((0, [("never", None, [("least", 0, [])])]), most), ([], True))
        self.assertEqual(self.seek((0, [("never", None, [("least", 1, [])])]), 2), ([[]], True))

    def test_no_rules(self):
        for many in (1, 2, 5, 60):
            self.assertEqual(self.seek((many, []), 0), ([], False))
            self.assertEqual(self.seek((many, []), 1), ([[]], True))
            self.assertEqual(self.seek((many, []), 2), ([[]], True))

    def test_one_where_it_is_not_said(self):
        self.assertEqual(worlds(free(2)), ([[0, 1]], False, []))
        self.assertEqual(worlds(free(2)), worlds(free(2), 1))
        found, whole, paper = worlds((1, [("make", 0, [])]))
        self.assertEqual((found, whole), ([[0]], True))
        self.assertIs(right_paper((1, [("make", 0, [])]), found, paper), True)
        self.assertEqual(worlds((1, [("make", 0, [("out", 0)])]))[:2], ([], True))

    def test_no_world(self):
        for plain in ((1, [("make", 0, [("out", 0)])]), (2, [("make", 0, [("in", 1)]), ("never", None, [("out", 0)])]),
                      (2, free(2)[1] + [("never", None, [("most", 9, [(0, 1), (1, 1)])])])):
            for most in (0, 1, 5):
                self.assertEqual(self.seek(plain, most), ([], True))

    def test_just_one_world(self):
        plain = (3, [("may", 0, []), ("make", 1, [("in", 0)]), ("never", None, [("out", 1)])])
        self.assertEqual(self.seek(plain, 0), ([], False))
        self.assertEqual(self.seek(plain, 1), ([[0, 1]], True))
        self.assertEqual(self.seek(plain, 2), ([[0, 1]], True))

    def test_many_worlds(self):
        every = [[0, 1, 2], [0, 1], [0, 2], [0], [1, 2], [1], [2], []]
        for most in range(12):
            self.assertEqual(self.seek(free(3), most), (every[:most], most >= 8))

    def test_far_more_than_there_are(self):
        self.assertEqual(self.seek(free(1), HUGE), ([[0], []], True))

    def test_argument_names(self):
        self.assertEqual(worlds(plain=free(1), most=2)[:2], ([[0], []], True))


class AllSets(Case):
    def test_the_sets_that_stand_in_their_order(self):
        seen = {0: 0, 1: 0, 2: 0}
        for plain in PROGRAMS:
            every = in_order(standing(plain))
            seen[min(len(every), 2)] += 1
            for most in sorted({0, 1, len(every), len(every) + 1, max(0, len(every) - 1)}):
                self.assertEqual((plain, self.seek(plain, most)), (plain, (every[:most], most >= len(every))))
        self.assertGreater(min(seen.values()), 50)

    def test_more_things(self):
        dice = random.Random(67)
        seen = 0
        for count in range(25):
            plain = made_up_program(dice, 8, 14, ("make", "may", "may", "never"))
            every = in_order([some for some in all_sets(8) if stands(plain, some)])
            seen += len(every)
            self.assertEqual(self.seek(plain, len(every)), (every, True))
            self.assertEqual(self.seek(plain, 3), (every[:3], len(every) <= 3))
        self.assertGreater(seen, 60)

    def test_each_world_is_judged_to_stand(self):
        for plain in PROGRAMS:
            found = worlds(plain, 40)[0]
            for some in all_sets(plain[0]):
                verdict = judged(plain, some)
                self.assertEqual(verdict[0] == "stands", some in found)
                if some in found:
                    self.assertEqual(sorted(thing for thing, number in verdict[1]), some)

    def test_each_once(self):
        for plain in PROGRAMS:
            found = worlds(plain, 40)[0]
            self.assertEqual(len({tuple(world) for world in found}), len(found))

    def test_the_same_rule_several_times(self):
        rules = free(3)[1] + just(1, (0, 1, 2))
        self.assertEqual(self.seek((3, rules * 3), 9), ([[0], [1], [2]], True))


class Order(Case):
    def test_the_least_thing_that_only_one_has(self):
        self.assertEqual(worlds(free(2), 4)[0], [[0, 1], [0], [1], []])
        rules = free(4)[1] + just(2, range(4))
        self.assertEqual(worlds((4, rules), 9)[0], [[0, 1], [0, 2], [0, 3], [1, 2], [1, 3], [2, 3]])

    def test_not_by_the_rules_order(self):
        rules = [("make", 2, [("out", 0), ("out", 1)]), ("make", 1, [("out", 0), ("out", 2)]),
                 ("make", 0, [("out", 1), ("out", 2)])]
        self.assertEqual(self.seek((3, rules), 3), ([[0], [1], [2]], True))
        self.assertEqual(self.seek((3, rules), 1), ([[0]], False))

    def test_a_thing_that_is_put_out_late(self):
        # Thing 0 can only be in where the last thing is out.
        plain = (4, free(4)[1] + [("never", None, [("in", 0), ("in", 3)]), ("never", None, [("out", 2), ("out", 3)])])
        every = in_order(standing(plain))
        self.assertEqual(every[0], [0, 1, 2])
        self.assertEqual(self.seek(plain, 20), (every, True))
        for most in range(len(every)):
            self.assertEqual(self.seek(plain, most), (every[:most], False))

    def test_the_first_of_many(self):
        first = list(range(60))
        self.assertEqual(self.seek_large(free(60), 4),
                         ([first, first[:59], first[:58] + [59], first[:58]], False))

    def test_first_ones_that_come_behind_many_bars(self):
        # Whatever the first things are, the last ones alone let nothing but [.., 58] stand.
        plain = (60, free(59)[1] + [("never", None, [("out", 58)]), ("make", 59, [("out", 58)])])
        found, whole = self.seek_large(plain, 3)
        self.assertEqual(found, [list(range(59)), list(range(57)) + [58], list(range(56)) + [57, 58]])
        self.assertIs(whole, False)


class Groups(Case):
    def test_rings(self):
        ring = [("make", 0, [("in", 1)]), ("make", 1, [("in", 2)]), ("make", 2, [("in", 0)])]
        self.assertEqual(self.seek((3, ring), 2), ([[]], True))
        self.assertEqual(self.seek((4, ring + [("may", 3, []), ("make", 0, [("in", 3)])]), 4),
                         ([[0, 1, 2, 3], []], True))
        self.assertEqual(self.seek((3, ring + [("never", None, [("out", 1)])]), 2), ([], True))
        self.assertEqual(self.seek((3, ring + [("may", 1, [("out", 0)])]), 2), ([[]], True))

    def test_rings_of_out(self):
        for many in range(1, 9):
            rules = [("make", thing, [("out", (thing + 1) % many)]) for thing in range(many)]
            every = [list(range(0, many, 2)), list(range(1, many, 2))] if many % 2 == 0 else []
            self.assertEqual(self.seek((many, rules), 3), (every, True))

    def test_groups_that_hold_up_only_themselves(self):
        plain = (3, [("make", 0, [("least", 1, [(1, 1), (2, 1)])]), ("make", 1, [("in", 0)]), ("may", 2, [("in", 1)])])
        self.assertEqual(self.seek(plain, 3), ([[]], True))
        plain = (3, plain[1] + [("may", 2, [])])
        self.assertEqual(self.seek(plain, 3), ([[0, 1, 2], []], True))

    def test_a_ring_that_another_thing_may_hold_up(self):
        rules = [("may", 0, []), ("may", 1, []), ("make", 2, [("in", 0)]), ("make", 2, [("in", 3)]),
                 ("make", 3, [("in", 2)]), ("make", 3, [("in", 1), ("out", 4)]), ("make", 4, [("in", 4)])]
        self.assertEqual(self.seek((5, rules), 9), ([[0, 1, 2, 3], [0, 2, 3], [1, 2, 3], []], True))

    def test_things_that_no_rule_makes(self):
        self.assertEqual(self.seek((3, [("may", 1, [])]), 5), ([[1], []], True))
        self.assertEqual(self.seek((3, [("may", 1, [("in", 0)])]), 5), ([[]], True))
        self.assertEqual(self.seek((3, [("never", None, [("out", 2)])]), 5), ([], True))


class Counts(Case):
    def test_of_many_figures(self):
        items = [(thing, HUGE + thing) for thing in range(6)]
        rules = free(6)[1] + [("never", None, [("least", 2 * HUGE + 6, items)]),
                              ("never", None, [("most", 2 * HUGE + 4, items)])]
        self.assertEqual(self.seek((6, rules), 9), ([[0, 5], [1, 4], [2, 3]], True))
        self.assertEqual(self.seek((6, rules), 2), ([[0, 5], [1, 4]], False))

    def test_below_0_and_of_nothing(self):
        self.assertEqual(self.seek((1, [("make", 0, [("least", -HUGE, [])])]), 2), ([[0]], True))
        self.assertEqual(self.seek((1, [("make", 0, [("most", -1, [(0, 5)])])]), 2), ([[]], True))
        self.assertEqual(self.seek((1, [("may", 0, [("most", 0, [(0, 0)])])]), 2), ([[0], []], True))

    def test_a_thing_in_several_items(self):
        rules = free(2)[1] + [("never", None, [("least", 3, [(0, 1), (1, 2), (0, 1), (0, 1)])])]
        self.assertEqual(self.seek((2, rules), 4), ([[1], []], True))

    def test_a_thing_that_the_count_would_need_itself(self):
        plain = (2, [("make", 0, [("most", 0, [(0, 1)])]), ("may", 1, [])])
        self.assertEqual(self.seek(plain, 4), ([], True))
        plain = (2, [("make", 0, [("least", 1, [(0, 1), (1, 1)])]), ("may", 1, [])])
        self.assertEqual(self.seek(plain, 4), ([[0, 1], []], True))


    def test_counts_over_many_things(self):
        # By the last ones a paper goes wrong that lets a step rest on what is put behind it.
        for seed in list(range(120)) + [303, 863, 1284, 1597, 1967]:
            plain = counting_program(seed)
            every = in_order([some for some in all_sets(plain[0]) if stands(plain, some)])
            self.assertEqual(self.seek(plain, 300), (every, True))
            self.assertEqual(self.seek(plain, 2), (every[:2], len(every) <= 2))

    def test_a_count_of_many_that_rests_on_few(self):
        # Any one thing from 6 on is enough to ask for four of the first six, and these can't be.
        items = [(thing, 1) for thing in range(6)]
        rules = free(40)[1] + [("never", None, [("most", 3, items), ("least", 1, [(thing, 1) for thing in range(6, 40)])]),
                               ("never", None, [("least", 4, items)])]
        self.assertEqual(self.seek((40, rules), 50), (in_order([some for some in all_sets(6) if len(some) < 4]), True))


class Longer(Case):
    def test_queens(self):
        for size, many in ((1, 1), (2, 0), (3, 0), (4, 2), (5, 10), (6, 4), (7, 40)):
            found, whole = self.seek_large(queens(size), 50)
            self.assertEqual((len(found), whole), (many, True))

    def test_just_as_many_as_there_are_one_less_and_more(self):
        every = worlds(queens(5), 50)[0]
        for most in (9, 10, 11):
            self.assertEqual(self.seek_large(queens(5), most), (every[:most], most >= 10))

    def test_hues(self):
        found, whole = self.seek_large(hues(PETERSEN, 10, 3), 200)
        self.assertEqual((len(found), whole), (120, True))
        self.assertEqual(self.seek_large(hues(PETERSEN, 10, 2), 1), ([], True))

    def test_tours(self):
        ways = [(start, end) for start in range(5) for end in range(5) if start != end]
        found, whole = self.seek_large(tours(ways, 5), 50)
        self.assertEqual((len(found), whole), (24, True))
        both = PETERSEN + [(end, start) for start, end in PETERSEN]
        self.assertEqual(self.seek_large(tours(both, 10), 3), ([], True))

    def test_pigeons(self):
        self.assertEqual(self.seek_large(pigeons(6, 5), 1), ([], True))
        found, whole = self.seek_large(pigeons(4, 4), 30)
        self.assertEqual((len(found), whole), (24, True))

    def test_one_of_each_two(self):
        found, whole = self.seek_large(one_of_two(12), 64)
        self.assertEqual((len(found), whole), (64, True))
        self.assertEqual(self.seek_large(one_of_two(12), 63), (found[:63], False))
        self.assertEqual(self.seek_large(one_of_two(60), 2)[0],
                         [list(range(0, 60, 2)), list(range(0, 58, 2)) + [59]])

    def test_none_for_a_cause_that_lies_far_behind(self):
        # Without a look at the cause, each of the first 56 things would be tried both ways.
        plain = (60, free(56)[1] + [("make", 56, [("out", 57)]), ("make", 57, [("out", 58)]),
                                    ("make", 58, [("out", 56)])])
        self.assertEqual(self.seek_large(plain, 2), ([], True))

    def test_60_things_and_402_rules(self):
        dice = random.Random(68)
        for count in range(3):
            rules = free(60)[1]
            while len(rules) < 402:
                things = dice.sample(range(60), 3)
                rules.append(("never", None, [(dice.choice(("in", "out")), thing) for thing in things]))
            self.seek_large((60, rules), 5)

    def test_large_ones_of_all_sorts(self):
        seen = {True: 0, False: 0}
        for seed in range(12):
            found, whole = self.seek_large(large_program(seed, rules=60), 4)
            seen[whole] += 1
            few = large_program(seed, rules=14)
            found, whole = self.seek_large((60, few[1] + free(20)[1]), 4)
            seen[whole] += 1
        self.assertGreater(min(seen.values()), 3)


class Papers(Case):
    def test_no_other_worlds_do(self):
        for plain in PROGRAMS[:200]:
            found, whole, paper = worlds(plain, 40)
            self.assertIs(whole, True)
            for number in range(len(found)):
                self.assertIs(right_paper(plain, found[:number] + found[number + 1:], paper), False)

    def test_a_paper_of_more_lines_than_a_list_may_have(self):
        found, whole, paper = worlds(free(9), 512)
        self.assertEqual((len(found), whole), (512, True))
        self.assertGreater(len(paper), 402)
        self.assertIs(right_paper(free(9), found, paper), True)

    def test_no_paper_where_one_world_is_left(self):
        self.assertEqual(worlds(free(4), 15)[1:], (False, []))
        self.assertEqual(worlds(free(4), 0), ([], False, []))


class HandedInAndTold(Case):
    def test_what_is_handed_in_stays(self):
        for plain in PROGRAMS[:300]:
            kept = copy.deepcopy(plain)
            worlds(plain)
            worlds(plain, 40)
            self.assertEqual(plain, kept)

    def test_what_was_told_stays_when_what_was_handed_in_is_changed(self):
        for plain in PROGRAMS[:300]:
            plain = copy.deepcopy(plain)
            told = worlds(plain, 40)
            kept = copy.deepcopy(told)
            for word, head, parts in plain[1]:
                for part in parts:
                    if part[0] in ("least", "most"):
                        part[2].clear()
                parts.clear()
            plain[1].clear()
            self.assertEqual(told, kept)

    def test_told_lists_are_new_each_time(self):
        for plain in PROGRAMS[:300]:
            first, second = worlds(plain, 40), worlds(plain, 40)
            self.assertEqual(first, second)
            self.assertFalse(share_a_list(first, second, plain))
        self.assertFalse(share_a_list(worlds(free(2), 1), worlds(free(2), 1)))
        self.assertFalse(share_a_list(worlds(free(2), 0), worlds(free(2), 0)))

    def test_no_list_stands_at_two_places_of_a_paper(self):
        for plain in (tours([(start, end) for start in range(4) for end in range(4) if start != end], 4),
                      hues(PETERSEN, 10, 3), one_of_two(8)):
            told = worlds(plain, 200)
            self.assertIs(told[1], True)
            self.assertFalse(share_a_list(told))

    def test_what_is_done_to_what_was_told_changes_nothing(self):
        told = worlds(free(2), 4)
        kept = copy.deepcopy(told)
        for world in told[0]:
            world.clear()
        for bar, steps in told[2]:
            bar.clear()
            steps.clear()
        told[0].clear()
        told[2].clear()
        self.assertEqual(worlds(free(2), 4), kept)
        few = worlds(free(2), 1)
        few[2].append(1)
        self.assertEqual(worlds(free(2), 1), ([[0, 1]], False, []))


if __name__ == "__main__":
    unittest.main()
