"""Parts: their form [5], holding [6], sure and lost [7], naming [10], and [2]."""

import itertools
import unittest

from standstill.parts import In, Least, Most, Out, Part, part_of
from ways import all_marks, all_sheets, filled

SORTS = (In, Out, Least, Most)
HUGE = 10 ** 299
ITEM_LISTS = (
    [],
    [(0, 1)],
    [(1, 0)],
    [(0, 1), (1, 1), (2, 1)],
    [(2, 3), (0, 2), (1, 0)],
    [(1, 2), (1, 2), (0, 1)],
    [(2, 1), (0, 0), (2, 2), (2, 0)],
)
BOUNDS = (-2, -1, 0, 1, 2, 3, 4, 5, 6)


def some_parts():
    """Tuples of all four sorts over the things 0, 1 and 2."""
    told = [(word, thing) for word in ("in", "out") for thing in range(3)]
    for word, bound, items in itertools.product(("least", "most"), BOUNDS, ITEM_LISTS):
        told.append((word, bound, list(items)))
    return told


class Form(unittest.TestCase):
    def test_each_tuple_gives_its_sort(self):
        asked = {"in": In, "out": Out, "least": Least, "most": Most}
        for told in some_parts():
            self.assertIs(type(part_of(told)), asked[told[0]])

    def test_the_sorts_stand_under_part_and_not_under_one_another(self):
        for sort in SORTS:
            self.assertTrue(issubclass(sort, Part))
            for other in SORTS:
                self.assertEqual(issubclass(sort, other), sort is other)

    def test_told_is_the_tuple(self):
        for told in some_parts():
            again = part_of(told).told()
            self.assertEqual(again, told)
            self.assertIs(type(again), tuple)

    def test_objects_tell_what_they_were_made_of(self):
        self.assertEqual(In(4).told(), ("in", 4))
        self.assertEqual(Out(0).told(), ("out", 0))
        items = [(3, 2), (0, 0), (3, 2)]
        self.assertEqual(Least(-5, items).told(), ("least", -5, items))
        self.assertEqual(Most(HUGE, items).told(), ("most", HUGE, items))
        self.assertEqual(Least(0, []).told(), ("least", 0, []))
        self.assertEqual(Most(0, []).told(), ("most", 0, []))

    def test_argument_names(self):
        self.assertEqual(In(thing=1).told(), ("in", 1))
        self.assertEqual(Out(thing=1).told(), ("out", 1))
        self.assertEqual(Least(bound=1, items=[(0, 1)]).told(), ("least", 1, [(0, 1)]))
        self.assertEqual(Most(bound=1, items=[(0, 1)]).told(), ("most", 1, [(0, 1)]))
        part = part_of(told=("in", 0))
        self.assertIs(part.holds(rising=[True], world=[False]), True)
        self.assertIs(part.sure(sheet=[True]), True)
        self.assertIs(part.lost(sheet=[True], without=[False]), False)

    def test_items_keep_their_order(self):
        items = [(2, 1), (0, 5), (1, 0), (0, 5)]
        self.assertEqual(Least(1, items).told()[2], items)
        self.assertEqual(Most(1, items).told()[2], items)


class Named(unittest.TestCase):
    def test_single_things(self):
        self.assertEqual(In(3).named(), [3])
        self.assertEqual(Out(0).named(), [0])

    def test_items_rising_each_once_worth_0_too(self):
        items = [(5, 1), (2, 0), (5, 3), (0, 1), (2, 0)]
        self.assertEqual(Least(1, items).named(), [0, 2, 5])
        self.assertEqual(Most(1, items).named(), [0, 2, 5])

    def test_no_items(self):
        self.assertEqual(Least(0, []).named(), [])
        self.assertEqual(Most(0, []).named(), [])

    def test_more_things_than_one_figure_has(self):
        items = [(thing, 1) for thing in (100, 9, 59, 10, 1)]
        self.assertEqual(Least(0, items).named(), [1, 9, 10, 59, 100])
        self.assertEqual(Most(0, items).named(), [1, 9, 10, 59, 100])


class Holds(unittest.TestCase):
    def test_in_looks_at_the_rising_marks(self):
        self.assertIs(In(1).holds([False, True], [False, False]), True)
        self.assertIs(In(1).holds([True, False], [True, True]), False)

    def test_out_looks_at_the_worlds_marks(self):
        self.assertIs(Out(1).holds([False, False], [False, True]), False)
        self.assertIs(Out(1).holds([True, True], [True, False]), True)

    def test_least_looks_at_the_rising_marks(self):
        part = Least(2, [(0, 1), (1, 1)])
        self.assertIs(part.holds([True, True], [False, False]), True)
        self.assertIs(part.holds([True, False], [True, True]), False)

    def test_most_looks_at_the_worlds_marks(self):
        part = Most(1, [(0, 1), (1, 1)])
        self.assertIs(part.holds([True, True], [True, False]), True)
        self.assertIs(part.holds([False, False], [True, True]), False)

    def test_bound_just_met_and_missed_by_one(self):
        items = [(0, 3), (1, 4), (2, 8)]
        both = [True, True, False]
        none = [False, False, False]
        for bound, least, most in ((6, True, False), (7, True, True), (8, False, True)):
            self.assertIs(Least(bound, items).holds(both, none), least)
            self.assertIs(Most(bound, items).holds(none, both), most)

    def test_no_items_come_to_0(self):
        for bound, least, most in ((-1, True, False), (0, True, True), (1, False, True)):
            self.assertIs(Least(bound, []).holds([], []), least)
            self.assertIs(Most(bound, []).holds([], []), most)

    def test_each_item_counts_by_itself(self):
        items = [(0, 2), (0, 2), (0, 3)]
        self.assertIs(Least(7, items).holds([True], [False]), True)
        self.assertIs(Least(8, items).holds([True], [True]), False)
        self.assertIs(Most(7, items).holds([False], [True]), True)
        self.assertIs(Most(6, items).holds([False], [True]), False)

    def test_worths_of_0_count_nothing(self):
        items = [(0, 0), (1, 0), (0, 0)]
        on = [True, True]
        self.assertIs(Least(0, items).holds(on, on), True)
        self.assertIs(Least(1, items).holds(on, on), False)
        self.assertIs(Most(0, items).holds(on, on), True)
        self.assertIs(Most(-1, items).holds(on, on), False)

    def test_bounds_below_0(self):
        off = [False]
        self.assertIs(Least(-HUGE, [(0, 1)]).holds(off, off), True)
        self.assertIs(Most(-HUGE, [(0, 1)]).holds(off, off), False)

    def test_numbers_of_many_figures(self):
        items = [(0, HUGE), (1, HUGE + 1), (2, 1)]
        both = [True, True, False]
        none = [False, False, False]
        total = 2 * HUGE + 1
        for over, least, most in ((-1, True, False), (0, True, True), (1, False, True)):
            self.assertIs(Least(total + over, items).holds(both, none), least)
            self.assertIs(Most(total + over, items).holds(none, both), most)

    def test_all_marks_by_the_words_of_the_document(self):
        for told in some_parts():
            part = part_of(told)
            for rising, world in itertools.product(all_marks(3), all_marks(3)):
                self.assertIs(part.holds(rising, world), holds_as_told(told, rising, world))


def holds_as_told(told, rising, world):
    if told[0] == "in":
        return rising[told[1]] is True
    if told[0] == "out":
        return world[told[1]] is False
    worth = 0
    for thing, one in told[2]:
        if (rising if told[0] == "least" else world)[thing]:
            worth += one
    return worth >= told[1] if told[0] == "least" else worth <= told[1]


def sure_as_told(told, sheet):
    if told[0] == "in":
        return sheet[told[1]] is True
    if told[0] == "out":
        return sheet[told[1]] is False
    worth = 0
    for thing, one in told[2]:
        if sheet[thing] is True or (told[0] == "most" and sheet[thing] is None):
            worth += one
    return worth >= told[1] if told[0] == "least" else worth <= told[1]


def lost_as_told(told, sheet, without):
    if told[0] == "in":
        return sheet[told[1]] is False or without[told[1]] is True
    if told[0] == "out":
        return sheet[told[1]] is True
    worth = 0
    for thing, one in told[2]:
        left = sheet[thing] is not False and without[thing] is False
        if left if told[0] == "least" else sheet[thing] is True:
            worth += one
    return worth < told[1] if told[0] == "least" else worth > told[1]


class Sure(unittest.TestCase):
    def test_in(self):
        self.assertEqual([In(0).sure([entry]) for entry in (True, False, None)], [True, False, False])

    def test_out(self):
        self.assertEqual([Out(0).sure([entry]) for entry in (True, False, None)], [False, True, False])

    def test_least_counts_ins_alone(self):
        items = [(0, 1), (1, 2), (2, 4)]
        sheet = [True, None, False]
        self.assertIs(Least(1, items).sure(sheet), True)
        self.assertIs(Least(2, items).sure(sheet), False)

    def test_most_counts_all_that_is_not_out(self):
        items = [(0, 1), (1, 2), (2, 4)]
        sheet = [True, None, False]
        self.assertIs(Most(3, items).sure(sheet), True)
        self.assertIs(Most(2, items).sure(sheet), False)

    def test_no_items(self):
        for bound, least, most in ((-1, True, False), (0, True, True), (1, False, True)):
            self.assertIs(Least(bound, []).sure([]), least)
            self.assertIs(Most(bound, []).sure([]), most)

    def test_numbers_of_many_figures(self):
        items = [(0, HUGE), (1, 1), (0, HUGE)]
        for over, least, most in ((-1, True, False), (0, True, True), (1, False, True)):
            self.assertIs(Least(2 * HUGE + over, items).sure([True, None]), least)
            self.assertIs(Most(2 * HUGE + 1 + over, items).sure([True, None]), most)

    def test_all_sheets_by_the_words_of_the_document(self):
        for told in some_parts():
            part = part_of(told)
            for sheet in all_sheets(3):
                self.assertIs(part.sure(sheet), sure_as_told(told, sheet))

    def test_sure_just_where_it_holds_however_the_sheet_is_filled(self):
        for told in some_parts():
            part = part_of(told)
            for sheet in all_sheets(3):
                always = all(part.holds(world, world) for world in filled(sheet))
                self.assertIs(part.sure(sheet), always)


class Lost(unittest.TestCase):
    def test_in(self):
        entries = (True, False, None)
        self.assertEqual([In(0).lost([entry], [False]) for entry in entries], [False, True, False])
        self.assertEqual([In(0).lost([entry], [True]) for entry in entries], [True, True, True])

    def test_out_whatever_the_group(self):
        entries = (True, False, None)
        for without in ([False], [True]):
            self.assertEqual([Out(0).lost([entry], without) for entry in entries], [True, False, False])

    def test_least_counts_what_is_neither_out_nor_in_the_group(self):
        items = [(0, 1), (1, 2), (2, 4), (3, 8), (4, 16)]
        sheet = [True, None, False, True, None]
        without = [False, False, False, True, True]
        self.assertIs(Least(3, items).lost(sheet, without), False)
        self.assertIs(Least(4, items).lost(sheet, without), True)
        empty = [False] * 5
        self.assertIs(Least(27, items).lost(sheet, empty), False)
        self.assertIs(Least(28, items).lost(sheet, empty), True)

    def test_most_counts_ins_whatever_the_group(self):
        items = [(0, 1), (1, 2), (2, 4), (3, 8)]
        sheet = [True, None, False, True]
        for without in ([False] * 4, [True] * 4, [False, False, False, True]):
            self.assertIs(Most(9, items).lost(sheet, without), False)
            self.assertIs(Most(8, items).lost(sheet, without), True)

    def test_no_items(self):
        for bound, least, most in ((-1, False, True), (0, False, False), (1, True, False)):
            self.assertIs(Least(bound, []).lost([], []), least)
            self.assertIs(Most(bound, []).lost([], []), most)

    def test_numbers_of_many_figures(self):
        items = [(0, HUGE), (1, 1), (0, HUGE)]
        none = [False, False]
        for over, least, most in ((-1, False, True), (0, False, False), (1, True, False)):
            self.assertIs(Least(2 * HUGE + 1 + over, items).lost([True, None], none), least)
            self.assertIs(Most(2 * HUGE + over, items).lost([True, None], none), most)

    def test_all_sheets_and_groups_by_the_words_of_the_document(self):
        for told in some_parts():
            part = part_of(told)
            for sheet, without in itertools.product(all_sheets(3), all_marks(3)):
                self.assertIs(part.lost(sheet, without), lost_as_told(told, sheet, without))

    def test_lost_just_where_it_holds_by_no_filled_sheet_without_the_group(self):
        for told in some_parts():
            part = part_of(told)
            for sheet, without in itertools.product(all_sheets(3), all_marks(3)):
                holds = False
                for world in filled(sheet):
                    rising = [truth and not gone for truth, gone in zip(world, without)]
                    holds = holds or part.holds(rising, world)
                self.assertIs(part.lost(sheet, without), not holds)


class HandedInAndTold(unittest.TestCase):
    def test_what_is_handed_in_stays(self):
        for told in some_parts():
            items = list(told[2]) if len(told) == 3 else None
            rising, world = [True, False, True], [False, True, True]
            sheet, without = [True, None, False], [False, True, True]
            part = part_of(told)
            part.holds(rising, world)
            part.sure(sheet)
            part.lost(sheet, without)
            part.named()
            part.told()
            self.assertEqual((rising, world), ([True, False, True], [False, True, True]))
            self.assertEqual((sheet, without), ([True, None, False], [False, True, True]))
            if items is not None:
                self.assertEqual(told[2], items)

    def test_changing_the_items_behind_the_call_changes_nothing(self):
        for make in (Least, Most, lambda bound, items: part_of(("least", bound, items)),
                     lambda bound, items: part_of(("most", bound, items))):
            items = [(1, 1), (0, 2)]
            part = make(1, items)
            before = everything(part)
            items.append((2, 5))
            items[0] = (2, 0)
            self.assertEqual(everything(part), before)
            items.clear()
            self.assertEqual(everything(part), before)

    def test_changing_what_is_told_changes_nothing(self):
        for told in some_parts():
            part = part_of(told)
            before = everything(part)
            part.named().append(7)
            if len(told) == 3:
                part.told()[2].append((0, 9))
                part.told()[2].clear()
            self.assertEqual(everything(part), before)

    def test_told_before_stays_when_asked_again(self):
        part = Least(1, [(1, 1), (0, 2)])
        first, named = part.told(), part.named()
        again, renamed = part.told(), part.named()
        again[2].clear()
        renamed.clear()
        self.assertEqual(first, ("least", 1, [(1, 1), (0, 2)]))
        self.assertEqual(named, [0, 1])

    def test_the_list_told_is_not_the_one_handed_in(self):
        for sort in (Least, Most):
            items = [(0, 1)]
            sort(1, items).told()[2].append((1, 1))
            self.assertEqual(items, [(0, 1)])

    def test_parts_of_one_list_are_apart(self):
        items = [(0, 1)]
        first, second = Least(1, items), Most(1, items)
        items.append((1, 1))
        third = Least(1, items)
        self.assertEqual(first.named(), [0])
        self.assertEqual(second.named(), [0])
        self.assertEqual(third.named(), [0, 1])


def everything(part):
    """What a part over the things 0, 1 and 2 answers to all that can be asked."""
    answers = [repr(part.told()), repr(part.named())]
    for sheet, truths in itertools.product(all_sheets(3), all_marks(3)):
        answers.append((part.sure(sheet), part.lost(sheet, truths)))
        answers.append(part.holds(truths, [not truth for truth in truths]))
    return answers


if __name__ == "__main__":
    unittest.main()
