"""Rules: bodies [8], breaking [9], naming [10], making [11], and [2]."""

import copy
import itertools
import unittest

from standstill.parts import part_of
from standstill.rules import (body_holds, body_lost, body_sure, breaks, makes, named_in,
                              surely_broken)
from ways import all_marks, all_sheets, filled

BODIES = (
    [],
    [("in", 0)],
    [("out", 0)],
    [("in", 1), ("out", 2)],
    [("in", 0), ("out", 0)],
    [("least", 2, [(0, 1), (1, 1), (2, 1)])],
    [("most", 1, [(0, 1), (1, 1), (2, 1)])],
    [("least", 0, []), ("most", -1, [(0, 1)])],
    [("in", 2), ("least", 3, [(0, 2), (1, 1), (1, 0)]), ("most", 3, [(2, 1), (1, 2), (1, 1)])],
)


def some_rules():
    rules = [("never", None, list(body)) for body in BODIES]
    for word, head, body in itertools.product(("make", "may"), range(3), BODIES):
        rules.append((word, head, list(body)))
    return rules


class Named(unittest.TestCase):
    def test_head_and_body_rising_each_once(self):
        body = [("out", 7), ("least", 1, [(4, 1), (2, 0), (4, 1)]), ("in", 7), ("most", 0, [(9, 0), (0, 2)])]
        self.assertEqual(named_in(("make", 3, body)), [0, 2, 3, 4, 7, 9])
        self.assertEqual(named_in(("may", 9, body)), [0, 2, 4, 7, 9])
        self.assertEqual(named_in(("never", None, body)), [0, 2, 4, 7, 9])

    def test_empty_body(self):
        self.assertEqual(named_in(("make", 0, [])), [0])
        self.assertEqual(named_in(("may", 5, [])), [5])
        self.assertEqual(named_in(("never", None, [])), [])

    def test_no_items(self):
        self.assertEqual(named_in(("never", None, [("least", 1, []), ("most", 1, [])])), [])

    def test_worth_0_alone(self):
        self.assertEqual(named_in(("never", None, [("least", 1, [(6, 0)])])), [6])
        self.assertEqual(named_in(("never", None, [("most", 1, [(6, 0)])])), [6])


class Makes(unittest.TestCase):
    def test_make_and_may_rules_make_their_heads(self):
        for word, head, thing in itertools.product(("make", "may"), range(3), range(3)):
            self.assertIs(makes((word, head, []), thing), head == thing)

    def test_never_rules_make_nothing(self):
        for thing in range(3):
            self.assertIs(makes(("never", None, [("in", thing), ("out", thing)]), thing), False)

    def test_the_body_makes_nothing(self):
        self.assertIs(makes(("make", 0, [("in", 1)]), 1), False)
        self.assertIs(makes(("may", 0, [("least", 0, [(1, 1)])]), 1), False)


class Bodies(unittest.TestCase):
    def test_empty_body(self):
        for word, head in (("make", 0), ("may", 0), ("never", None)):
            rule = (word, head, [])
            for entry in (True, False, None):
                self.assertIs(body_sure(rule, [entry]), True)
                self.assertIs(body_lost(rule, [entry], [False]), False)
                self.assertIs(body_lost(rule, [entry], [True]), False)
            self.assertIs(body_holds(rule, [False], [False]), True)
            self.assertIs(body_holds(rule, [True], [True]), True)

    def test_holds_where_all_parts_hold(self):
        rule = ("make", 0, [("in", 1), ("out", 2)])
        self.assertIs(body_holds(rule, [False, True, False], [False, True, False]), True)
        self.assertIs(body_holds(rule, [False, False, False], [False, True, False]), False)
        self.assertIs(body_holds(rule, [False, True, False], [False, True, True]), False)
        self.assertIs(body_holds(rule, [False, True, True], [False, False, False]), True)

    def test_sure_where_all_parts_are(self):
        rule = ("make", 0, [("in", 1), ("out", 2)])
        self.assertIs(body_sure(rule, [None, True, False]), True)
        self.assertIs(body_sure(rule, [None, True, None]), False)
        self.assertIs(body_sure(rule, [None, None, False]), False)

    def test_lost_where_some_part_is(self):
        rule = ("make", 0, [("in", 1), ("out", 2)])
        empty = [False, False, False]
        self.assertIs(body_lost(rule, [None, None, None], empty), False)
        self.assertIs(body_lost(rule, [None, False, None], empty), True)
        self.assertIs(body_lost(rule, [None, None, True], empty), True)
        self.assertIs(body_lost(rule, [None, None, None], [False, True, False]), True)
        self.assertIs(body_lost(rule, [None, None, None], [True, False, True]), False)

    def test_the_head_plays_no_part(self):
        for head in (True, False, None):
            self.assertIs(body_sure(("make", 0, [("in", 1)]), [head, True]), True)
            self.assertIs(body_lost(("may", 0, [("in", 1)]), [head, True], [True, False]), False)

    def test_by_their_parts_on_all_marks_and_sheets(self):
        for rule in some_rules():
            parts = [part_of(told) for told in rule[2]]
            for rising, world in itertools.product(all_marks(3), all_marks(3)):
                asked = all(part.holds(rising, world) for part in parts)
                self.assertIs(body_holds(rule, rising, world), asked)
            for sheet in all_sheets(3):
                self.assertIs(body_sure(rule, sheet), all(part.sure(sheet) for part in parts))
                for without in all_marks(3):
                    asked = any(part.lost(sheet, without) for part in parts)
                    self.assertIs(body_lost(rule, sheet, without), asked)


class Breaks(unittest.TestCase):
    def test_make(self):
        rule = ("make", 0, [("in", 1), ("out", 2)])
        self.assertIs(breaks(rule, [False, True, False]), True)
        self.assertIs(breaks(rule, [True, True, False]), False)
        self.assertIs(breaks(rule, [False, False, False]), False)
        self.assertIs(breaks(rule, [False, True, True]), False)

    def test_never(self):
        rule = ("never", None, [("in", 0), ("out", 1)])
        self.assertIs(breaks(rule, [True, False]), True)
        self.assertIs(breaks(rule, [True, True]), False)
        self.assertIs(breaks(rule, [False, False]), False)

    def test_may_is_never_broken(self):
        for body in BODIES:
            for world in all_marks(3):
                self.assertIs(breaks(("may", 0, list(body)), world), False)

    def test_empty_bodies(self):
        self.assertIs(breaks(("make", 0, []), [False]), True)
        self.assertIs(breaks(("make", 0, []), [True]), False)
        self.assertIs(breaks(("may", 0, []), [False]), False)
        self.assertIs(breaks(("never", None, []), []), True)
        self.assertIs(breaks(("never", None, []), [True]), True)

    def test_both_marks_are_the_worlds(self):
        rule = ("never", None, [("least", 2, [(0, 1), (1, 1)]), ("most", 2, [(0, 1), (1, 1), (2, 1)])])
        self.assertIs(breaks(rule, [True, True, False]), True)
        self.assertIs(breaks(rule, [True, True, True]), False)
        self.assertIs(breaks(rule, [True, False, False]), False)

    def test_a_rule_on_its_own_head(self):
        self.assertIs(breaks(("make", 0, [("out", 0)]), [False]), True)
        self.assertIs(breaks(("make", 0, [("out", 0)]), [True]), False)
        self.assertIs(breaks(("make", 0, [("in", 0)]), [False]), False)
        self.assertIs(breaks(("make", 0, [("in", 0)]), [True]), False)

    def test_all_worlds_by_the_words_of_the_document(self):
        for rule in some_rules():
            for world in all_marks(3):
                asked = body_holds(rule, world, world) and rule[0] != "may"
                if rule[0] == "make":
                    asked = asked and world[rule[1]] is False
                self.assertIs(breaks(rule, world), asked)


class SurelyBroken(unittest.TestCase):
    def test_make_with_a_head_in_out_and_open(self):
        rule = ("make", 0, [("in", 1)])
        self.assertIs(surely_broken(rule, [False, True]), True)
        self.assertIs(surely_broken(rule, [None, True]), False)
        self.assertIs(surely_broken(rule, [True, True]), False)

    def test_make_with_a_body_that_is_not_sure(self):
        rule = ("make", 0, [("in", 1)])
        self.assertIs(surely_broken(rule, [False, None]), False)
        self.assertIs(surely_broken(rule, [False, False]), False)

    def test_never(self):
        rule = ("never", None, [("in", 0), ("out", 1)])
        self.assertIs(surely_broken(rule, [True, False]), True)
        self.assertIs(surely_broken(rule, [True, None]), False)
        self.assertIs(surely_broken(rule, [None, False]), False)
        self.assertIs(surely_broken(rule, [True, True]), False)

    def test_may_is_never_broken(self):
        for body in BODIES:
            for sheet in all_sheets(3):
                self.assertIs(surely_broken(("may", 0, list(body)), sheet), False)

    def test_empty_bodies(self):
        for entry, asked in ((False, True), (True, False), (None, False)):
            self.assertIs(surely_broken(("make", 0, []), [entry]), asked)
            self.assertIs(surely_broken(("may", 0, []), [entry]), False)
            self.assertIs(surely_broken(("never", None, []), [entry]), True)

    def test_all_sheets_by_the_words_of_the_document(self):
        for rule in some_rules():
            for sheet in all_sheets(3):
                asked = body_sure(rule, sheet) and rule[0] != "may"
                if rule[0] == "make":
                    asked = asked and sheet[rule[1]] is False
                self.assertIs(surely_broken(rule, sheet), asked)

    def test_so_it_is_broken_however_the_sheet_is_filled(self):
        for rule in some_rules():
            for sheet in all_sheets(3):
                if surely_broken(rule, sheet):
                    for world in filled(sheet):
                        self.assertIs(breaks(rule, world), True)

    def test_a_full_sheet_breaks_what_its_marks_break(self):
        for rule in some_rules():
            for world in all_marks(3):
                self.assertIs(surely_broken(rule, world), breaks(rule, world))


class HandedInAndTold(unittest.TestCase):
    def test_what_is_handed_in_stays(self):
        for rule in some_rules():
            handed = [rule, [True, False, True], [False, True, True], [None, True, False], [True, True, False]]
            kept = copy.deepcopy(handed)
            ask_everything(handed[0], handed[1], handed[2], handed[3], handed[4])
            self.assertEqual(handed, kept)

    def test_changing_what_was_told_changes_nothing(self):
        for rule in some_rules():
            first = named_in(rule)
            kept = list(first)
            named_in(rule).append(11)
            self.assertEqual(first, kept)
            first.clear()
            self.assertEqual(named_in(rule), kept)

    def test_what_was_told_stays_when_the_rule_is_changed(self):
        items = [(2, 1)]
        parts = [("least", 1, items)]
        rule = ("make", 0, parts)
        told = named_in(rule)
        items.append((1, 1))
        parts.append(("in", 3))
        self.assertEqual(told, [0, 2])

    def test_a_changed_rule_is_asked_as_it_stands_then(self):
        parts = [("in", 1)]
        rule = ("never", None, parts)
        self.assertIs(breaks(rule, [False, True]), True)
        parts.append(("in", 0))
        self.assertIs(breaks(rule, [False, True]), False)
        self.assertEqual(named_in(rule), [0, 1])


def ask_everything(rule, rising, world, sheet, without):
    named_in(rule)
    makes(rule, 0)
    body_holds(rule, rising, world)
    body_sure(rule, sheet)
    body_lost(rule, sheet, without)
    breaks(rule, world)
    surely_broken(rule, sheet)


class ArgumentNames(unittest.TestCase):
    def test_names(self):
        rule = ("make", 0, [("in", 1)])
        self.assertEqual(named_in(rule=rule), [0, 1])
        self.assertIs(makes(rule=rule, thing=0), True)
        self.assertIs(body_holds(rule=rule, rising=[False, True], world=[False, False]), True)
        self.assertIs(body_sure(rule=rule, sheet=[None, True]), True)
        self.assertIs(body_lost(rule=rule, sheet=[None, True], without=[False, True]), True)
        self.assertIs(breaks(rule=rule, world=[False, True]), True)
        self.assertIs(surely_broken(rule=rule, sheet=[False, True]), True)


if __name__ == "__main__":
    unittest.main()
