"""A set judged: [11] to [15], and [2]."""

import copy
import unittest

from standstill.judge import built, chain, first_broken, group, judged
from ways import (HUGE, all_sets, chain_by_the_words, greatest_group, is_broken, judged_by_the_words, large_program,
                  makers, programs)

PROGRAMS = programs(11, 150) + programs(12, 60, many=4, rules=7, words=("make", "may"))


class FirstBroken(unittest.TestCase):
    def test_the_least_number_of_several(self):
        plain = (3, [("make", 0, [("in", 1)]), ("make", 2, []), ("never", None, [("in", 1)]),
                     ("make", 0, [])])
        self.assertEqual(first_broken(plain, []), 1)
        self.assertEqual(first_broken(plain, [1]), 0)
        self.assertEqual(first_broken(plain, [2]), 3)
        self.assertEqual(first_broken(plain, [0, 1]), 1)
        self.assertEqual(first_broken(plain, [0, 1, 2]), 2)

    def test_none_is_broken(self):
        plain = (3, [("make", 0, [("in", 1)]), ("never", None, [("in", 2)])])
        self.assertIs(first_broken(plain, [0, 1]), None)
        self.assertIs(first_broken(plain, [0]), None)
        self.assertIs(first_broken(plain, []), None)

    def test_may_rules_are_not_broken(self):
        plain = (2, [("may", 0, []), ("may", 1, [("in", 0)]), ("may", 1, [("out", 0)])])
        for some in all_sets(2):
            self.assertIs(first_broken(plain, some), None)
        self.assertEqual(first_broken((2, plain[1] + [("make", 1, [])]), []), 3)

    def test_the_first_rule_has_the_number_0(self):
        number = first_broken((1, [("make", 0, [])]), [])
        self.assertEqual(number, 0)
        self.assertIs(type(number), int)

    def test_things_that_rest_on_nothing_break_nothing(self):
        self.assertIs(first_broken((2, [("make", 0, [("in", 1)])]), [0, 1]), None)

    def test_no_things_and_no_rules(self):
        self.assertIs(first_broken((0, []), []), None)
        self.assertIs(first_broken((3, []), [0, 2]), None)
        self.assertEqual(first_broken((0, [("never", None, [])]), []), 0)
        self.assertIs(first_broken((0, [("never", None, [("least", 1, [])])]), []), None)

    def test_numbers_of_many_figures(self):
        items = [(thing, HUGE) for thing in range(60)]
        plain = (60, [("never", None, [("least", 60 * HUGE, items)]), ("make", 3, [("most", 2 * HUGE, items)])])
        self.assertEqual(first_broken(plain, list(range(60))), 0)
        self.assertIs(first_broken(plain, list(range(59))), None)
        self.assertEqual(first_broken(plain, [0, 1]), 1)
        self.assertIs(first_broken(plain, [0, 1, 2]), None)

    def test_by_the_words_of_the_document(self):
        for plain in PROGRAMS:
            for some in all_sets(plain[0]):
                broken = [number for number, rule in enumerate(plain[1]) if is_broken(rule, set(some))]
                self.assertEqual(first_broken(plain, some), broken[0] if broken else None)


class Chain(unittest.TestCase):
    def test_the_least_of_several_things_comes_next(self):
        plain = (3, [("make", 2, []), ("may", 0, []), ("make", 1, [])])
        self.assertEqual(chain(plain, [0, 1, 2]), [(0, 1), (1, 2), (2, 0)])
        self.assertEqual(chain(plain, [0, 2]), [(0, 1), (2, 0)])

    def test_a_lesser_thing_comes_as_soon_as_it_can(self):
        plain = (4, [("make", 0, [("in", 2)]), ("make", 2, [("in", 1)]), ("make", 1, []), ("make", 3, [])])
        self.assertEqual(chain(plain, [0, 1, 2, 3]), [(1, 2), (2, 1), (0, 0), (3, 3)])

    def test_the_least_of_several_rules(self):
        plain = (2, [("never", None, [("out", 1)]), ("make", 1, [("in", 0)]), ("may", 1, []), ("make", 1, []),
                     ("may", 0, []), ("make", 0, [])])
        self.assertEqual(chain(plain, [1]), [(1, 2)])
        self.assertEqual(chain(plain, [0, 1]), [(0, 4), (1, 1)])

    def test_a_rule_that_holds_only_later_is_not_told(self):
        plain = (2, [("make", 0, [("in", 1)]), ("make", 0, []), ("make", 1, [])])
        self.assertEqual(chain(plain, [0, 1]), [(0, 1), (1, 2)])

    def test_a_thing_that_no_rule_makes(self):
        plain = (2, [("make", 0, []), ("never", None, [("out", 1)])])
        self.assertEqual(chain(plain, [0, 1]), [(0, 0)])
        self.assertEqual(chain(plain, [1]), [])

    def test_things_that_hold_only_one_another(self):
        plain = (3, [("make", 0, [("in", 1)]), ("make", 1, [("in", 0)]), ("make", 2, [("in", 2)])])
        self.assertEqual(chain(plain, [0, 1, 2]), [])
        self.assertEqual(chain((3, plain[1] + [("may", 1, [])]), [0, 1, 2]), [(1, 3), (0, 0)])

    def test_only_things_of_the_set(self):
        plain = (3, [("make", 0, []), ("make", 1, [("in", 0)]), ("make", 2, [])])
        self.assertEqual(chain(plain, [1, 2]), [(2, 2)])

    def test_an_out_part_looks_at_the_whole_set(self):
        plain = (2, [("make", 0, [("out", 1)]), ("make", 1, [])])
        self.assertEqual(chain(plain, [0, 1]), [(1, 1)])
        self.assertEqual(chain(plain, [0]), [(0, 0)])

    def test_a_most_part_looks_at_the_whole_set(self):
        plain = (3, [("make", 0, [("most", 1, [(1, 1), (2, 1)])]), ("make", 1, []), ("make", 2, [])])
        self.assertEqual(chain(plain, [0, 1, 2]), [(1, 1), (2, 2)])
        self.assertEqual(chain(plain, [0, 2]), [(0, 0), (2, 2)])

    def test_an_in_part_looks_at_the_chain_so_far(self):
        plain = (3, [("make", 0, [("in", 1)]), ("make", 1, [("in", 2)]), ("make", 2, [])])
        self.assertEqual(chain(plain, [0, 1, 2]), [(2, 2), (1, 1), (0, 0)])
        self.assertEqual(chain(plain, [0, 1]), [])

    def test_a_least_part_looks_at_the_chain_so_far(self):
        plain = (3, [("make", 0, [("least", 2, [(0, 2), (1, 1), (2, 1)])]), ("may", 1, []), ("may", 2, [])])
        self.assertEqual(chain(plain, [0, 1, 2]), [(1, 1), (2, 2), (0, 0)])
        self.assertEqual(chain(plain, [0, 1]), [(1, 1)])

    def test_the_empty_set(self):
        self.assertEqual(chain((2, [("make", 0, [])]), []), [])
        self.assertEqual(chain((0, []), []), [])
        self.assertEqual(chain((3, []), []), [])
        self.assertEqual(chain((3, []), [0, 1, 2]), [])

    def test_kinds(self):
        links = chain((2, [("make", 0, []), ("make", 1, [])]), [0, 1])
        self.assertIs(type(links), list)
        for link in links:
            self.assertIs(type(link), tuple)
            self.assertEqual([type(one) for one in link], [int, int])

    def test_sixty_things_one_on_another(self):
        rules = [("make", thing, [("in", thing + 1)]) for thing in range(59)] + [("make", 59, [])]
        self.assertEqual(chain((60, rules), list(range(60))), [(thing, thing) for thing in range(59, -1, -1)])

    def test_by_the_words_of_the_document(self):
        for plain in PROGRAMS:
            for some in all_sets(plain[0]):
                self.assertEqual(chain(plain, some), chain_by_the_words(plain, some))

    def test_large_ones_by_the_words(self):
        for seed in range(6):
            plain = large_program(seed, rules=40 if seed < 5 else 402)
            for some in (list(range(60)), list(range(0, 60, 2)), list(range(58)), []):
                self.assertEqual(chain(plain, some), chain_by_the_words(plain, some))


class BuiltAndGroup(unittest.TestCase):
    def test_built_is_the_chain_as_a_set(self):
        plain = (3, [("make", 0, [("in", 2)]), ("make", 2, [])])
        self.assertEqual(chain(plain, [0, 1, 2]), [(2, 1), (0, 0)])
        self.assertEqual(built(plain, [0, 1, 2]), [0, 2])
        self.assertEqual(group(plain, [0, 1, 2]), [1])

    def test_things_that_hold_only_one_another(self):
        plain = (4, [("make", 0, [("in", 3)]), ("may", 3, [("in", 0)]), ("make", 2, []), ("make", 1, [("in", 1)])])
        self.assertEqual(group(plain, [0, 1, 2, 3]), [0, 1, 3])
        self.assertEqual(built(plain, [0, 1, 2, 3]), [2])
        self.assertEqual(group(plain, [0, 3]), [0, 3])
        self.assertEqual(group(plain, [2]), [])

    def test_what_stands_on_a_group_is_in_it(self):
        plain = (3, [("make", 0, [("in", 0)]), ("make", 1, [("in", 0)]), ("make", 2, [("least", 1, [(1, 1)])])])
        self.assertEqual(group(plain, [0, 1, 2]), [0, 1, 2])

    def test_a_thing_that_no_rule_makes_is_in_every_group(self):
        for plain in PROGRAMS:
            for some in all_sets(plain[0]):
                for thing in some:
                    if not makers(plain, [thing]):
                        self.assertIn(thing, group(plain, some))

    def test_the_empty_set(self):
        for plain in ((0, []), (2, []), (2, [("make", 0, [])])):
            self.assertEqual(built(plain, []), [])
            self.assertEqual(group(plain, []), [])

    def test_no_rules(self):
        self.assertEqual(group((3, []), [0, 2]), [0, 2])
        self.assertEqual(built((3, []), [0, 2]), [])

    def test_the_group_is_the_greatest_one(self):
        for plain in PROGRAMS:
            for some in all_sets(plain[0]):
                self.assertEqual(group(plain, some), greatest_group(plain, some))

    def test_both_are_the_set(self):
        for plain in PROGRAMS + [large_program(1)]:
            for some in all_sets(min(plain[0], 4)):
                made, left = built(plain, some), group(plain, some)
                self.assertEqual(made, sorted(thing for thing, number in chain(plain, some)))
                self.assertEqual(sorted(made + left), some)
                self.assertEqual(left, sorted(left))


class Judged(unittest.TestCase):
    def test_broken_goes_ahead_of_the_group(self):
        plain = (2, [("make", 0, []), ("make", 1, [("in", 1)])])
        self.assertEqual(judged(plain, [1]), ("broken", 0))
        self.assertEqual(judged(plain, [0, 1]), ("group", [1]))
        self.assertEqual(judged(plain, [0]), ("stands", [(0, 0)]))
        self.assertEqual(judged(plain, []), ("broken", 0))

    def test_the_empty_set_may_stand(self):
        self.assertEqual(judged((0, []), []), ("stands", []))
        self.assertEqual(judged((2, [("may", 0, [])]), []), ("stands", []))
        self.assertEqual(judged((2, []), []), ("stands", []))

    def test_no_things_and_a_never_rule(self):
        self.assertEqual(judged((0, [("never", None, [])]), []), ("broken", 0))

    def test_two_that_keep_each_other_out(self):
        plain = (2, [("make", 0, [("out", 1)]), ("make", 1, [("out", 0)])])
        self.assertEqual(judged(plain, []), ("broken", 0))
        self.assertEqual(judged(plain, [0]), ("stands", [(0, 0)]))
        self.assertEqual(judged(plain, [1]), ("stands", [(1, 1)]))
        self.assertEqual(judged(plain, [0, 1]), ("group", [0, 1]))

    def test_by_its_own_words(self):
        seen = set()
        for plain in PROGRAMS:
            for some in all_sets(plain[0]):
                told = judged(plain, some)
                self.assertEqual(told, judged_by_the_words(plain, some))
                self.assertIs(type(told), tuple)
                seen.add(told[0])
        self.assertEqual(seen, {"broken", "group", "stands"})


class HandedInAndTold(unittest.TestCase):
    CALLS = (first_broken, chain, built, group, judged)

    def test_what_is_handed_in_stays(self):
        for plain in PROGRAMS[:40] + [large_program(2)]:
            some = list(range(0, plain[0], 2))
            kept = copy.deepcopy((plain, some))
            for call in self.CALLS:
                call(plain, some)
                self.assertEqual((plain, some), kept)

    def test_changing_what_was_told_changes_nothing(self):
        plain = (3, [("make", 0, []), ("make", 1, [("in", 1)])])
        for call, some in ((chain, [0, 1]), (built, [0, 1]), (group, [0, 1])):
            first = call(plain, some)
            kept = list(first)
            call(plain, some).append(9)
            self.assertEqual(first, kept)
            first.clear()
            self.assertEqual(call(plain, some), kept)
            self.assertEqual(some, [0, 1])

    def test_changing_a_list_within_a_told_tuple_changes_nothing(self):
        plain = (3, [("make", 0, []), ("make", 1, [("in", 1)])])
        for some in ([0, 1], [0]):
            first = judged(plain, some)
            kept = copy.deepcopy(first)
            judged(plain, some)[1].append(9)
            self.assertEqual(first, kept)
            first[1].clear()
            self.assertEqual(judged(plain, some), kept)

    def test_what_was_told_stays_when_what_was_handed_in_is_changed(self):
        parts, some = [], [0, 1]
        rules = [("may", 0, parts), ("may", 1, [("in", 1)])]
        told = [call((2, rules), some) for call in self.CALLS]
        kept = copy.deepcopy(told)
        parts.append(("in", 1))
        rules.append(("never", None, []))
        some.clear()
        self.assertEqual(told, kept)
        self.assertEqual(judged((2, rules), [0]), ("broken", 2))

    def test_argument_names(self):
        for call in self.CALLS:
            call(plain=(1, [("make", 0, [])]), some=[0])


if __name__ == "__main__":
    unittest.main()
