"""Sheets spread [24], and [2]."""

import copy
import random
import unittest

from standstill.knowing import loose, right_step, spread
from ways import (HUGE, agrees, all_sheets, changed, greatest_loose, is_surely_broken, large_program,
                  made_up_bars, pairs_that_do_not_fit, pressed_by_the_words, programs, standing,
                  step_is_right, steps_of_all_sorts)

PROGRAMS = programs(41, 60, many=3, rules=5) + programs(42, 50, many=4, rules=6)


def in_some_order(dice, plain, bars, sheet):
    """A sheet spread in an order that chance tells: the sheet, and whether None came."""
    while True:
        steps = steps_of_all_sorts(plain, bars, sheet)
        if not steps:
            return sheet, False
        pair = dice.choice(steps)[0]
        if pair is None:
            return sheet, True
        sheet = changed(sheet, pair[0], pair[1])


class Spread(unittest.TestCase):
    def follow(self, plain, bars, sheet, small=True):
        """Spreads a sheet and follows each step; tells the sheet and whether None came."""
        told = spread(plain, bars, sheet)
        self.assertIs(type(told), tuple)
        after, steps = told
        now = list(sheet)
        for number, step in enumerate(steps):
            self.assertIs(right_step(plain, [], bars, now, step), True)
            self.assertTrue(step_is_right(plain, [], bars, now, step))
            if step[0] is None:
                self.assertEqual(number, len(steps) - 1)
            else:
                self.one_of_the_sorts(plain, bars, now, step, small)
                now = changed(now, step[0][0], step[0][1])
        self.assertEqual(after, now)
        ended = bool(steps) and steps[-1][0] is None
        if small and not ended:
            self.assertEqual(steps_of_all_sorts(plain, bars, after), [])
        return after, ended

    def one_of_the_sorts(self, plain, bars, now, step, small):
        (thing, truth), (sort, told) = step
        self.assertIn(sort, ("rule", "bar", "group"))
        if sort == "rule":
            self.assertIn((thing, truth), pressed_by_the_words(plain[1][told], now))
        elif sort == "bar":
            self.assertIn((thing, not truth), bars[told])
            self.assertEqual(pairs_that_do_not_fit(now, bars[told]), [(thing, not truth)])
        else:
            self.assertIs(truth, False)
            self.assertIn(thing, told)
            self.assertEqual(len(set(told)), len(told))
            if small:
                self.assertIn(thing, greatest_loose(plain, now))

    def test_no_things_and_no_rules(self):
        self.assertEqual(spread((0, []), [], []), ([], []))
        self.assertEqual(spread((0, [("never", None, [])]), [], []), ([], [(None, ("rule", 0))]))
        self.assertEqual(spread((0, []), [[]], []), ([], [(None, ("bar", 0))]))
        after, ended = self.follow((2, []), [], [None, None])
        self.assertEqual((after, ended), ([False, False], False))

    def test_nothing_to_do(self):
        plain = (2, [("may", 0, []), ("may", 1, [])])
        self.assertEqual(spread(plain, [], [None, None]), ([None, None], []))
        self.assertEqual(spread(plain, [], [True, False]), ([True, False], []))
        self.assertEqual(spread(plain, [[(0, True), (1, True)]], [None, None]), ([None, None], []))

    def test_a_rule_presses(self):
        plain = (3, [("make", 2, [("in", 1)]), ("make", 1, [("in", 0)]), ("may", 0, [])])
        self.assertEqual(self.follow(plain, [], [True, None, None]), ([True, True, True], False))
        self.assertEqual(self.follow(plain, [], [None, None, False]), ([False, False, False], False))

    def test_a_rule_is_broken(self):
        plain = (2, [("may", 0, []), ("may", 1, []), ("never", None, [("in", 0)])])
        self.assertEqual(spread(plain, [], [True, None]), ([True, None], [(None, ("rule", 2))]))
        after, ended = self.follow((2, plain[1] + [("make", 0, [("in", 1)])]), [], [None, True])
        self.assertTrue(ended)

    def test_several_things_pressed_by_one_rule(self):
        plain = (3, [("may", thing, []) for thing in range(3)]
                 + [("never", None, [("least", 2, [(0, 1), (1, 1), (2, 1)])])])
        self.assertEqual(spread(plain, [], [None, True, None]),
                         ([False, True, False], [((0, False), ("rule", 3)), ((2, False), ("rule", 3))]))

    def test_bars(self):
        plain = (3, [("may", thing, []) for thing in range(3)])
        bars = [[(2, True), (1, False)], [(0, True), (1, True)], [(1, False), (2, False)]]
        self.assertEqual(self.follow(plain, bars[:2], [True, None, None]), ([True, False, False], False))
        after, ended = self.follow(plain, bars, [True, None, None])
        self.assertTrue(ended)
        self.assertEqual(spread(plain, bars[1:2], [True, True, None]), ([True, True, None], [(None, ("bar", 0))]))

    def test_a_bar_but_for_one_pair_that_is_not_open(self):
        plain = (2, [("may", 0, []), ("may", 1, [])])
        self.assertEqual(spread(plain, [[(0, True), (1, True)]], [True, False]), ([True, False], []))

    def test_an_empty_bar_ends_at_once(self):
        plain = (1, [("may", 0, [])])
        self.assertEqual(spread(plain, [[(0, True)], []], [False]), ([False], [(None, ("bar", 1))]))

    def test_loose_things(self):
        plain = (3, [("make", 0, [("in", 1)]), ("make", 1, [("in", 0)]), ("may", 2, [])])
        self.assertEqual(self.follow(plain, [], [None, None, None]), ([False, False, None], False))
        after, ended = self.follow(plain, [], [None, True, None])
        self.assertTrue(ended)
        self.assertEqual(self.follow(plain, [], [False, False, None]), ([False, False, None], False))

    def test_one_sort_sets_off_another(self):
        plain = (5, [("may", 0, []), ("make", 1, [("out", 2)]), ("may", 2, [("in", 0)]),
                     ("make", 3, [("in", 1)]), ("may", 4, [])])
        bars = [[(3, True), (4, True)]]
        self.assertEqual(self.follow(plain, bars, [False, None, None, None, None]),
                         ([False, True, False, True, False], False))

    def test_may_rules_alone(self):
        plain = (2, [("may", 1, [("out", 0)])])
        self.assertEqual(self.follow(plain, [], [None, None]), ([False, None], False))

    def test_on_all_sheets(self):
        dice = random.Random(43)
        ends = {}
        for plain in PROGRAMS:
            for sheet in all_sheets(plain[0]):
                bars = made_up_bars(dice, plain[0], 3)
                after, ended = self.follow(plain, bars, sheet)
                ends[ended] = ends.get(ended, 0) + 1
                other, other_ended = in_some_order(dice, plain, bars, sheet)
                self.assertIs(ended, other_ended)
                if not ended:
                    self.assertEqual(after, other)
        self.assertGreater(min(ends[True], ends[False]), 200)

    def test_no_world_is_lost(self):
        for plain in PROGRAMS:
            worlds = standing(plain)
            for sheet in all_sheets(plain[0]):
                after, steps = spread(plain, [], sheet)
                found = [world for world in worlds if agrees(world, sheet)]
                if steps and steps[-1][0] is None:
                    self.assertEqual(found, [])
                else:
                    self.assertTrue(all(agrees(world, after) for world in found))
                    if None not in after:
                        self.assertEqual(len(found), 1)

    def test_large_ones(self):
        dice = random.Random(44)
        for seed in range(8):
            plain = large_program(seed, rules=40 if seed < 7 else 402)
            for sheet in ([None] * 60, [dice.choice((None, None, None, True, False)) for thing in range(60)]):
                bars = made_up_bars(dice, 60, 6)
                after, ended = self.follow(plain, bars, sheet, small=False)
                if not ended:
                    self.assertEqual(spread(plain, bars, after), (after, []))
                    self.assertEqual(loose(plain, after), [])
                    for rule in plain[1]:
                        self.assertFalse(is_surely_broken(rule, after) or pressed_by_the_words(rule, after))

    def test_sixty_things_one_behind_another(self):
        rules = [("make", thing, [("in", thing + 1)]) for thing in range(59)] + [("make", 59, [])]
        self.assertEqual(self.follow((60, rules), [], [None] * 60, small=False), ([True] * 60, False))

    def test_numbers_of_many_figures(self):
        items = [(thing, HUGE) for thing in range(60)]
        rules = [("may", thing, []) for thing in range(60)]
        plain = (60, rules + [("never", None, [("least", 2 * HUGE, items)])])
        after, ended = self.follow(plain, [], [None] * 30 + [True] + [None] * 29, small=False)
        self.assertEqual((after, ended), ([False] * 30 + [True] + [False] * 29, False))


class HandedInAndTold(unittest.TestCase):
    plain = (3, [("make", 0, [("in", 1)]), ("make", 1, [("in", 0)])])

    def test_told_lists_are_new(self):
        sheet = [None, None, None]
        first = spread(self.plain, [], sheet)
        kept = copy.deepcopy(first)
        second = spread(self.plain, [], sheet)
        second[0].clear()
        second[1].clear()
        self.assertEqual(first, kept)
        self.assertEqual(sheet, [None, None, None])
        self.assertEqual(spread(self.plain, [], sheet), kept)

    def test_each_group_is_a_list_of_its_own(self):
        after, steps = spread(self.plain, [], [None, None, None])
        groups = [why[1] for pair, why in steps if why[0] == "group"]
        self.assertGreater(len(groups), 1)
        kept = copy.deepcopy(groups)
        groups[0].clear()
        self.assertEqual(groups[1:], kept[1:])
        self.assertEqual([why[1] for pair, why in spread(self.plain, [], [None, None, None])[1]], kept)

    def test_the_last_group_is_the_askers_own(self):
        first = spread(self.plain, [], [True, None, None])
        kept = copy.deepcopy(first)
        first[1][-1][1][1].append(9)
        self.assertEqual(spread(self.plain, [], [True, None, None]), kept)

    def test_what_was_told_stays_when_what_was_handed_in_is_changed(self):
        parts, bars, sheet = [("in", 1)], [[(1, False)]], [None, None]
        rules = [("make", 0, parts), ("may", 1, [])]
        told = spread((2, rules), bars, sheet)
        kept = copy.deepcopy(told)
        parts.clear()
        rules.clear()
        bars[0].clear()
        bars.clear()
        sheet.clear()
        self.assertEqual(told, kept)
        self.assertEqual(told[0], [True, True])

    def test_a_sheet_that_nothing_is_done_on_is_new_too(self):
        sheet = [None]
        after = spread((1, [("may", 0, [])]), [], sheet)[0]
        after[0] = True
        self.assertEqual(sheet, [None])

    def test_kinds(self):
        after, steps = spread(self.plain, [], [None, None, None])
        self.assertIs(type(after), list)
        self.assertIs(type(steps), list)
        for pair, why in steps:
            self.assertEqual([type(one) for one in pair], [int, bool])
            self.assertEqual([type(one) for one in why], [str, list])


if __name__ == "__main__":
    unittest.main()
