"""What a sheet makes sure: pressing [19], loose things [20], bars [21], whys [22], steps [23], and [2]."""

import copy
import itertools
import random
import unittest

from standstill.knowing import fits, loose, pressed, right_step, right_why, spread
from ways import (HUGE, agrees, all_sheets, changed, filled, greatest_loose, ins, is_broken,
                  large_program, made_up_bars, made_up_rule, makers, pressed_by_the_words, programs,
                  standing, step_is_right, subsets, why_is_right)

PROGRAMS = programs(31, 60, many=3, rules=5) + programs(32, 40, many=4, rules=6)


class Pressed(unittest.TestCase):
    def test_a_head_that_is_open_in_and_out(self):
        rule = ("make", 0, [("in", 1)])
        self.assertEqual(pressed(rule, [None, True]), [(0, True)])
        self.assertEqual(pressed(rule, [True, None]), [])
        self.assertEqual(pressed(rule, [True, True]), [])
        self.assertEqual(pressed(rule, [False, None]), [(1, False)])
        self.assertEqual(pressed(rule, [False, False]), [])
        self.assertEqual(pressed(rule, [None, None]), [])
        self.assertEqual(pressed(rule, [None, False]), [])

    def test_surely_broken_as_it_is_presses_nothing(self):
        self.assertEqual(pressed(("make", 0, [("in", 1)]), [False, True]), [])
        self.assertEqual(pressed(("make", 0, [("least", 1, [(1, 1), (2, 1)])]), [False, True, None]), [])
        self.assertEqual(pressed(("never", None, [("least", 1, [(0, 1), (1, 1)])]), [True, None]), [])
        self.assertEqual(pressed(("never", None, [("most", 2, [(0, 1), (1, 1)])]), [None, None]), [])
        self.assertEqual(pressed(("never", None, []), [None]), [])

    def test_by_rising_things(self):
        items = [(3, 1), (1, 1), (2, 1), (0, 1)]
        self.assertEqual(pressed(("never", None, [("least", 1, items)]), [None] * 4),
                         [(0, False), (1, False), (2, False), (3, False)])
        self.assertEqual(pressed(("never", None, [("most", 3, items)]), [None] * 4),
                         [(0, True), (1, True), (2, True), (3, True)])

    def test_a_thing_in_several_parts(self):
        parts = [("in", 0), ("least", 2, [(0, 1), (1, 1)]), ("out", 2)]
        self.assertEqual(pressed(("never", None, parts), [None, True, False]), [(0, False)])
        self.assertEqual(pressed(("never", None, parts), [None, None, False]), [])
        self.assertEqual(pressed(("never", None, parts), [True, None, False]), [(1, False)])
        self.assertEqual(pressed(("never", None, parts), [True, True, None]), [(2, True)])
        self.assertEqual(pressed(("never", None, [("in", 0), ("out", 0)]), [None]), [])

    def test_a_head_in_its_own_body(self):
        self.assertEqual(pressed(("make", 0, [("out", 0)]), [None]), [(0, True)])
        self.assertEqual(pressed(("make", 0, [("in", 0)]), [None]), [])
        self.assertEqual(pressed(("make", 0, [("most", 0, [(0, 1)])]), [None]), [(0, True)])
        self.assertEqual(pressed(("make", 0, [("most", 0, [(0, 1), (1, 1)])]), [None, None]), [])
        self.assertEqual(pressed(("make", 0, [("most", 0, [(0, 1), (1, 1)])]), [None, False]), [(0, True)])

    def test_the_same_thing_in_several_items(self):
        rule = ("never", None, [("least", 3, [(0, 1), (0, 2), (1, 2), (1, 0)])])
        self.assertEqual(pressed(rule, [None, None]), [(0, False)])
        self.assertEqual(pressed(rule, [None, True]), [(0, False)])

    def test_items_of_worth_0_press_nothing(self):
        self.assertEqual(pressed(("never", None, [("least", 1, [(0, 0)])]), [None]), [])
        self.assertEqual(pressed(("never", None, [("least", 1, [(0, 0), (1, 1)])]), [None, None]), [(1, False)])

    def test_empty_body(self):
        self.assertEqual(pressed(("make", 1, []), [None, None]), [(1, True)])
        self.assertEqual(pressed(("make", 1, []), [None, True]), [])

    def test_may_rules_press_nothing(self):
        for parts in ([], [("in", 1)], [("out", 0)], [("most", 5, [(1, 1)])]):
            for sheet in all_sheets(2):
                self.assertEqual(pressed(("may", 0, parts), sheet), [])

    def test_numbers_of_many_figures(self):
        items = [(thing, HUGE + thing) for thing in range(60)]
        rule = ("never", None, [("least", HUGE + 58, items)])
        self.assertEqual(pressed(rule, [None] * 60), [(58, False), (59, False)])
        rule = ("make", 0, [("most", 58 * HUGE + sum(range(60)), items)])
        self.assertEqual(pressed(rule, [None] + [False] + [None] * 58), [(0, True)])
        self.assertEqual(pressed(rule, [False, None] + [True] * 58), [(1, True)])

    def test_by_the_words_on_all_sheets(self):
        dice = random.Random(33)
        seen = 0
        for count in range(400):
            rule = made_up_rule(dice, 3, ("make", "make", "may", "never", "never"))
            for sheet in all_sheets(3):
                told = pressed(rule, sheet)
                self.assertEqual(told, pressed_by_the_words(rule, sheet), (rule, sheet))
                self.assertEqual(len({thing for thing, truth in told}), len(told))
                seen += len(told)
        self.assertGreater(seen, 1000)

    def test_so_it_is_in_all_that_do_not_break_the_rule(self):
        dice = random.Random(34)
        for count in range(100):
            rule = made_up_rule(dice, 3, ("make", "never"))
            for sheet in all_sheets(3):
                for thing, truth in pressed(rule, sheet):
                    for marks in filled(changed(sheet, thing, not truth)):
                        self.assertTrue(is_broken(rule, ins(marks)))


class Loose(unittest.TestCase):
    def test_none(self):
        plain = (2, [("make", 0, []), ("may", 1, [("in", 0)])])
        for sheet in ([None, None], [True, True], [None, True], [True, None]):
            self.assertEqual(loose(plain, sheet), [])
        self.assertEqual(loose((0, []), []), [])

    def test_all(self):
        plain = (3, [("make", 0, [("in", 1)]), ("make", 1, [("in", 2)]), ("make", 2, [("in", 0)])])
        self.assertEqual(loose(plain, [None, None, None]), [0, 1, 2])
        self.assertEqual(loose(plain, [True, None, True]), [0, 1, 2])
        self.assertEqual(loose((3, []), [None, True, None]), [0, 1, 2])

    def test_outs_are_not_told(self):
        self.assertEqual(loose((3, []), [False, True, None]), [1, 2])
        self.assertEqual(loose((2, []), [False, False]), [])

    def test_the_union_of_several(self):
        plain = (5, [("make", 0, [("in", 1)]), ("make", 1, [("in", 0)]), ("make", 2, [("in", 2)]),
                     ("may", 4, []), ("never", None, [("in", 0)])])
        self.assertEqual(loose(plain, [None] * 5), [0, 1, 2, 3])
        self.assertEqual(loose((5, plain[1] + [("may", 1, [("in", 4)])]), [None] * 5), [2, 3])

    def test_several_rules_for_one_thing(self):
        plain = (3, [("make", 0, [("in", 0)]), ("may", 0, [("out", 1)]), ("may", 1, [])])
        self.assertEqual(loose(plain, [None, None, False]), [])
        self.assertEqual(loose(plain, [None, True, False]), [0])

    def test_parts_that_are_lost(self):
        plain = (3, [("may", 0, [("least", 2, [(1, 1), (2, 1)])]), ("may", 1, []), ("may", 2, [])])
        self.assertEqual(loose(plain, [None, None, None]), [])
        self.assertEqual(loose(plain, [None, False, None]), [0])
        plain = (3, [("may", 0, [("most", 1, [(1, 1), (2, 1)])]), ("may", 1, []), ("may", 2, [])])
        self.assertEqual(loose(plain, [None, True, None]), [])
        self.assertEqual(loose(plain, [None, True, True]), [0])

    def test_least_parts_over_the_group(self):
        plain = (3, [("may", 0, [("least", 1, [(1, 1), (2, 1)])]), ("may", 1, [("in", 0)])])
        self.assertEqual(loose(plain, [None, None, False]), [0, 1])
        self.assertEqual(loose(plain, [None, None, None]), [0, 1, 2])
        self.assertEqual(loose((3, plain[1] + [("may", 2, [])]), [None, None, None]), [])

    def test_a_group_puts_nothing_out_of_the_world(self):
        plain = (2, [("make", 0, [("out", 1)]), ("make", 1, [("in", 1)])])
        self.assertEqual(loose(plain, [None, None]), [1])
        self.assertEqual(loose(plain, [None, True]), [0, 1])

    def test_sixty_things(self):
        rules = [("may", thing, [("in", thing + 1)]) for thing in range(59)]
        self.assertEqual(loose((60, rules), [None] * 60), list(range(60)))
        self.assertEqual(loose((60, rules + [("may", 59, [])]), [None] * 60), [])
        self.assertEqual(loose((60, rules + [("may", 30, [])]), [None] * 60), list(range(31, 60)))

    def test_by_the_words_on_all_sheets(self):
        seen = set()
        for plain in PROGRAMS:
            for sheet in all_sheets(plain[0]):
                told = loose(plain, sheet)
                self.assertEqual(told, greatest_loose(plain, sheet), (plain, sheet))
                seen.add(len(told))
        self.assertEqual(seen, {0, 1, 2, 3, 4})

    def test_no_world_has_a_loose_thing(self):
        for plain in PROGRAMS:
            worlds = standing(plain)
            for sheet in all_sheets(plain[0]):
                things = set(loose(plain, sheet))
                for world in worlds:
                    if agrees(world, sheet):
                        self.assertFalse(things & set(world))


class Fits(unittest.TestCase):
    def test_an_empty_bar(self):
        for sheet in all_sheets(2) + [[]]:
            self.assertIs(fits(sheet, []), True)

    def test_one_pair(self):
        for entry, truth in itertools.product((True, False, None), (True, False)):
            self.assertIs(fits([entry], [(0, truth)]), entry is truth)

    def test_all_pairs_in_any_order(self):
        bar = [(0, True), (2, False), (1, True)]
        for order in itertools.permutations(bar):
            self.assertIs(fits([True, True, False, None], list(order)), True)
            self.assertIs(fits([True, None, False, None], list(order)), False)
            self.assertIs(fits([True, True, True, None], list(order)), False)
            self.assertIs(fits([None, None, None, None], list(order)), False)

    def test_a_thing_with_both_truths_fits_nothing(self):
        for entry in (True, False, None):
            self.assertIs(fits([entry], [(0, True), (0, False)]), False)


class RightWhy(unittest.TestCase):
    def test_rule(self):
        plain = (2, [("make", 0, [("in", 1)]), ("never", None, [("in", 0)]), ("may", 1, [])])
        self.assertIs(right_why(plain, [], [], [False, True], ("rule", 0)), True)
        self.assertIs(right_why(plain, [], [], [None, True], ("rule", 0)), False)
        self.assertIs(right_why(plain, [], [], [True, True], ("rule", 0)), False)
        self.assertIs(right_why(plain, [], [], [True, None], ("rule", 1)), True)
        self.assertIs(right_why(plain, [], [], [False, None], ("rule", 1)), False)
        self.assertIs(right_why(plain, [], [], [False, False], ("rule", 2)), False)

    def test_numbers_that_nothing_has(self):
        plain = (1, [("never", None, [])])
        for sort in ("rule", "bar", "world"):
            self.assertIs(right_why(plain, [[0]], [[]], [True], (sort, 0)), True)
            for number in (1, 2, 402, HUGE):
                self.assertIs(right_why(plain, [[0]], [[]], [True], (sort, number)), False)
            # Nor are they told from the end.
            self.assertIs(right_why(plain, [[0]], [[]], [True], (sort, -1)), False)
            self.assertIs(right_why((1, []), [], [], [True], (sort, 0)), False)

    def test_bar(self):
        bars = [[(0, True)], [(0, True), (1, False)], []]
        plain = (2, [])
        self.assertIs(right_why(plain, [], bars, [True, None], ("bar", 0)), True)
        self.assertIs(right_why(plain, [], bars, [True, None], ("bar", 1)), False)
        self.assertIs(right_why(plain, [], bars, [True, True], ("bar", 1)), False)
        self.assertIs(right_why(plain, [], bars, [True, False], ("bar", 1)), True)
        self.assertIs(right_why(plain, [], bars, [None, None], ("bar", 0)), False)
        self.assertIs(right_why(plain, [], bars, [None, None], ("bar", 2)), True)

    def test_world(self):
        worlds = [[0, 2], [], [1]]
        plain = (3, [])
        self.assertIs(right_why(plain, worlds, [], [True, False, True], ("world", 0)), True)
        self.assertIs(right_why(plain, worlds, [], [True, None, True], ("world", 0)), False)
        self.assertIs(right_why(plain, worlds, [], [True, False, None], ("world", 0)), False)
        self.assertIs(right_why(plain, worlds, [], [True, True, True], ("world", 0)), False)
        self.assertIs(right_why(plain, worlds, [], [False, False, False], ("world", 0)), False)
        self.assertIs(right_why(plain, worlds, [], [False, False, False], ("world", 1)), True)
        self.assertIs(right_why(plain, worlds, [], [None, None, None], ("world", 1)), False)
        self.assertIs(right_why(plain, worlds, [], [False, True, False], ("world", 2)), True)
        self.assertIs(right_why((0, []), [[]], [], [], ("world", 0)), True)

    def test_group(self):
        plain = (3, [("make", 0, [("in", 1)]), ("make", 1, [("in", 0)]), ("may", 2, [])])
        for order in ([0, 1], [1, 0]):
            self.assertIs(right_why(plain, [], [], [True, None, None], ("group", order)), True)
            self.assertIs(right_why(plain, [], [], [None, True, None], ("group", order)), True)
        self.assertIs(right_why(plain, [], [], [True, None, None], ("group", [0])), False)
        self.assertIs(right_why(plain, [], [], [True, False, None], ("group", [0])), True)
        self.assertIs(right_why(plain, [], [], [True, True, True], ("group", [0, 1, 2])), False)
        self.assertIs(right_why(plain, [], [], [True, True, True], ("group", [2])), False)

    def test_groups_without_a_thing_that_is_in(self):
        plain = (2, [])
        for sheet in ([None, None], [False, None], [False, False]):
            self.assertIs(right_why(plain, [], [], sheet, ("group", [0, 1])), False)
        self.assertIs(right_why(plain, [], [], [None, True], ("group", [0])), False)
        self.assertIs(right_why(plain, [], [], [True, True], ("group", [])), False)
        self.assertIs(right_why(plain, [], [], [None, True], ("group", [0, 1])), True)

    def test_groups_with_things_that_are_out(self):
        plain = (3, [("make", 0, [("in", 1)]), ("make", 1, [("in", 0)]), ("may", 2, [])])
        for order in itertools.permutations([0, 1]):
            self.assertIs(right_why(plain, [], [], [True, False, None], ("group", list(order))), True)
        # What makes a thing that is out is looked at like the rest.
        for order in itertools.permutations([0, 1, 2]):
            self.assertIs(right_why(plain, [], [], [True, None, False], ("group", list(order))), False)

    def test_all_rules_that_make_one_of_them(self):
        plain = (2, [("make", 0, [("in", 0)]), ("may", 0, [("in", 1)]), ("may", 1, [])])
        self.assertIs(right_why(plain, [], [], [True, None], ("group", [0])), False)
        self.assertIs(right_why(plain, [], [], [True, False], ("group", [0])), True)
        self.assertIs(right_why((2, plain[1][:1]), [], [], [True, None], ("group", [0])), True)
        self.assertIs(right_why((2, plain[1][:1] + [("never", None, [])]), [], [], [True, None], ("group", [0])), True)

    def test_large(self):
        plain = large_program(4)
        nobody = [thing for thing in range(60) if not makers(plain, [thing])]
        sheet = [None] * 60
        sheet[nobody[0]] = True
        self.assertIs(right_why(plain, [], [], sheet, ("group", nobody[::-1])), True)
        self.assertIs(right_why(plain, [], [], sheet, ("group", nobody + [0])), False)

    def test_by_the_words_on_all_sheets(self):
        dice = random.Random(35)
        seen = {}
        for plain in PROGRAMS:
            many = plain[0]
            bars = made_up_bars(dice, many, 3) + [[]]
            worlds = [dice.choice(subsets(range(many))) for count in range(3)]
            whys = [(sort, number) for sort in ("rule", "bar", "world") for number in range(7)]
            whys += [("group", dice.sample(some, len(some))) for some in subsets(range(many))]
            for sheet in all_sheets(many):
                for why in whys:
                    told = right_why(plain, worlds, bars, sheet, why)
                    self.assertIs(told, why_is_right(plain, worlds, bars, sheet, why))
                    seen[(why[0], told)] = True
        self.assertEqual(len(seen), 8)

    def test_so_no_other_world_is_as_the_sheet_has_it(self):
        for plain in PROGRAMS:
            worlds = standing(plain)
            listed = worlds[::2]
            groups = [("group", some) for some in subsets(range(plain[0]))]
            for sheet in all_sheets(plain[0]):
                for why in groups + [(sort, number) for sort in ("rule", "world") for number in range(6)]:
                    if right_why(plain, listed, [], sheet, why):
                        for world in worlds:
                            self.assertTrue(world in listed or not agrees(world, sheet))


class RightStep(unittest.TestCase):
    plain = (3, [("make", 0, [("in", 1)]), ("make", 2, [("in", 2)])])

    def test_a_thing_that_is_open(self):
        self.assertIs(right_step(self.plain, [], [], [None, True, None], ((0, True), ("rule", 0))), True)
        self.assertIs(right_step(self.plain, [], [], [None, True, None], ((0, False), ("rule", 0))), False)
        self.assertIs(right_step(self.plain, [], [], [False, None, None], ((1, False), ("rule", 0))), True)
        self.assertIs(right_step(self.plain, [], [], [False, None, None], ((1, True), ("rule", 0))), False)

    def test_a_thing_that_is_not_open(self):
        for entry, truth in itertools.product((True, False), (True, False)):
            self.assertIs(right_step(self.plain, [], [], [entry, True, None], ((0, truth), ("rule", 0))), False)
            self.assertIs(right_step(self.plain, [], [[]], [entry, True, None], ((0, truth), ("bar", 0))), False)

    def test_group(self):
        self.assertIs(right_step(self.plain, [], [], [None, None, None], ((2, False), ("group", [2]))), True)
        self.assertIs(right_step(self.plain, [], [], [None, None, None], ((2, True), ("group", [2]))), False)
        self.assertIs(right_step(self.plain, [], [], [None, None, None], ((1, False), ("group", [1, 2, 0]))), True)
        self.assertIs(right_step(self.plain, [], [], [None, None, None], ((0, False), ("group", [0]))), False)

    def test_bar_and_world(self):
        bars = [[(0, True), (1, False)]]
        self.assertIs(right_step(self.plain, [], bars, [None, False, None], ((0, False), ("bar", 0))), True)
        self.assertIs(right_step(self.plain, [], bars, [True, None, None], ((1, True), ("bar", 0))), True)
        self.assertIs(right_step(self.plain, [], bars, [True, None, None], ((1, False), ("bar", 0))), False)
        self.assertIs(right_step(self.plain, [], bars, [None, None, None], ((0, False), ("bar", 0))), False)
        self.assertIs(right_step(self.plain, [[0]], [], [True, False, None], ((2, True), ("world", 0))), True)
        self.assertIs(right_step(self.plain, [[0]], [], [True, False, None], ((2, False), ("world", 0))), False)

    def test_any_right_why_will_do(self):
        # The why needn't have to do with the thing: nothing is as the sheet has it.
        self.assertIs(right_step(self.plain, [], [], [None, False, True], ((0, True), ("group", [2]))), True)
        self.assertIs(right_step(self.plain, [], [[]], [None, False, True], ((0, False), ("bar", 0))), True)

    def test_none(self):
        self.assertIs(right_step(self.plain, [], [], [False, True, None], (None, ("rule", 0))), True)
        self.assertIs(right_step(self.plain, [], [], [None, True, None], (None, ("rule", 0))), False)
        self.assertIs(right_step(self.plain, [], [], [None, None, True], (None, ("group", [2]))), True)
        self.assertIs(right_step(self.plain, [], [], [None, None, None], (None, ("group", [2]))), False)
        self.assertIs(right_step(self.plain, [], [[]], [None, None, None], (None, ("bar", 0))), True)
        self.assertIs(right_step(self.plain, [[]], [], [False, False, False], (None, ("world", 0))), True)
        self.assertIs(right_step(self.plain, [], [], [None, None, None], (None, ("rule", 9))), False)

    def test_by_the_words_on_all_sheets(self):
        dice = random.Random(36)
        for plain in PROGRAMS[:50]:
            many = plain[0]
            bars = made_up_bars(dice, many, 2)
            worlds = [dice.choice(subsets(range(many)))]
            pairs = [None] + [(thing, truth) for thing in range(many) for truth in (True, False)]
            whys = [(sort, number) for sort in ("rule", "bar", "world") for number in range(4)]
            whys += [("group", some) for some in subsets(range(many))]
            for sheet, pair, why in itertools.product(all_sheets(many), pairs, whys):
                self.assertIs(right_step(plain, worlds, bars, sheet, (pair, why)),
                              step_is_right(plain, worlds, bars, sheet, (pair, why)))


class HandedInAndTold(unittest.TestCase):
    def test_what_is_handed_in_stays(self):
        dice = random.Random(37)
        for plain in PROGRAMS[:30] + [large_program(5)]:
            sheet = [dice.choice((True, False, None, None)) for thing in range(plain[0])]
            bars = made_up_bars(dice, plain[0], 3) + [[]]
            worlds = [list(range(plain[0])), []]
            whys = [("rule", 0), ("group", list(range(plain[0]))), ("bar", 0), ("world", 0)]
            handed = [plain, worlds, bars, sheet, whys]
            kept = copy.deepcopy(handed)
            for rule in plain[1]:
                pressed(rule, sheet)
            loose(plain, sheet)
            fits(sheet, bars[0])
            for why in whys:
                right_why(plain, worlds, bars, sheet, why)
                right_step(plain, worlds, bars, sheet, (None, why))
                if plain[0]:
                    right_step(plain, worlds, bars, sheet, ((0, True), why))
            spread(plain, bars, sheet)
            self.assertEqual(handed, kept)

    def test_changing_what_was_told_changes_nothing(self):
        rule = ("never", None, [("least", 1, [(0, 1), (1, 1)])])
        for call, asked in ((pressed, rule), (loose, (2, [rule]))):
            sheet = [None, None]
            first = call(asked, sheet)
            kept = list(first)
            call(asked, sheet).append(9)
            self.assertEqual(first, kept)
            first.clear()
            self.assertEqual(call(asked, sheet), kept)
            self.assertEqual(sheet, [None, None])

    def test_what_was_told_stays_when_what_was_handed_in_is_changed(self):
        items, sheet = [(0, 1), (1, 1)], [None, None]
        rule = ("never", None, [("least", 1, items)])
        first, second = pressed(rule, sheet), loose((2, [rule]), sheet)
        items.clear()
        sheet.clear()
        self.assertEqual(first, [(0, False), (1, False)])
        self.assertEqual(second, [0, 1])

    def test_argument_names(self):
        plain, sheet = (1, [("make", 0, [])]), [None]
        self.assertEqual(pressed(rule=plain[1][0], sheet=sheet), [(0, True)])
        self.assertEqual(loose(plain=plain, sheet=sheet), [])
        self.assertIs(fits(sheet=sheet, bar=[]), True)
        self.assertIs(right_why(plain=plain, worlds=[], bars=[], sheet=sheet, why=("rule", 0)), False)
        self.assertIs(right_step(plain=plain, worlds=[], bars=[], sheet=sheet, step=((0, True), ("rule", 0))), True)
        self.assertEqual(spread(plain=plain, bars=[], sheet=sheet), ([True], [((0, True), ("rule", 0))]))

    def test_kinds(self):
        rule = ("never", None, [("least", 1, [(0, 1), (1, 1)])])
        told = pressed(rule, [None, None])
        self.assertIs(type(told), list)
        for pair in told:
            self.assertIs(type(pair), tuple)
            self.assertEqual([type(one) for one in pair], [int, bool])
        self.assertIs(type(loose((2, []), [None, None])), list)


if __name__ == "__main__":
    unittest.main()
