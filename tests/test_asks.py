"""Asked of all worlds: things wanted and unwanted [31], in all and in some worlds [32], and [2]."""

import copy
import unittest

from standstill.asks import in_all, in_some, unwanted, wanted
from standstill.papers import right_paper
from ways import HUGE, in_order, lists_in, paper_is_right, programs, share_a_list, standing, stands

PROGRAMS = (programs(71, 120, many=3, rules=6) + programs(72, 80, many=4, rules=8)
            + programs(73, 40, many=4, rules=7, words=("make",))
            + programs(74, 40, many=4, rules=7, words=("may", "may", "never")))

# One of things 0 and 1 is in, never both; 2 goes with 1; 3 is always in, 4 never.
PLAIN = (5, [("make", 0, [("out", 1)]), ("make", 1, [("out", 0)]), ("make", 2, [("in", 1)]), ("make", 3, []),
             ("make", 4, [("in", 4)])])


def with_rule(plain, part):
    return (plain[0], plain[1] + [("never", None, [part])])


class Case(unittest.TestCase):
    def right(self, plain, paper):
        """Looks whether the paper is a right one of the plain program, with no worlds."""
        self.assertIs(type(paper), list)
        self.assertIs(right_paper(plain, [], paper), True)
        self.assertTrue(paper_is_right(plain, [], paper))

    def ask_all(self, plain, thing):
        told = in_all(plain, thing)
        self.assertIs(type(told), tuple)
        self.assertEqual(len(told), 2)
        if told[0] == "yes":
            self.right(with_rule(plain, ("in", thing)), told[1])
            return "yes"
        self.assertEqual(told[0], "no")
        return told

    def ask_some(self, plain, thing):
        told = in_some(plain, thing)
        self.assertIs(type(told), tuple)
        self.assertEqual(len(told), 2)
        if told[0] == "no":
            self.right(with_rule(plain, ("out", thing)), told[1])
            return "no"
        self.assertEqual(told[0], "yes")
        return told


class OneRuleMore(Case):
    def test_wanted(self):
        self.assertEqual(wanted((1, []), 0), (1, [("never", None, [("out", 0)])]))
        self.assertEqual(wanted(PLAIN, 3), (5, PLAIN[1] + [("never", None, [("out", 3)])]))

    def test_unwanted(self):
        self.assertEqual(unwanted((1, []), 0), (1, [("never", None, [("in", 0)])]))
        self.assertEqual(unwanted(PLAIN, 3), (5, PLAIN[1] + [("never", None, [("in", 3)])]))

    def test_all_sorts_of_parts_stay(self):
        rules = [("may", 0, [("least", -HUGE, [])]), ("never", None, []), ("make", 1, [("in", 0), ("out", 0)]),
                 ("never", None, [("most", HUGE, [(0, 0), (1, HUGE), (0, 2)]), ("least", 1, [(1, 1)])])]
        for thing in (0, 1):
            self.assertEqual(wanted((2, rules), thing), (2, rules + [("never", None, [("out", thing)])]))
            self.assertEqual(unwanted((2, rules), thing), (2, rules + [("never", None, [("in", thing)])]))

    def test_kinds(self):
        for told in (wanted(PLAIN, 0), unwanted(PLAIN, 0)):
            self.assertIs(type(told), tuple)
            self.assertIs(type(told[1]), list)
            self.assertTrue(all(type(rule) is tuple and type(rule[2]) is list for rule in told[1]))

    def test_402_rules(self):
        plain = (60, [("may", number % 60, []) for number in range(402)])
        self.assertEqual(wanted(plain, 59)[1][402:], [("never", None, [("out", 59)])])
        self.assertEqual(unwanted(plain, 0)[1][402:], [("never", None, [("in", 0)])])

    def test_its_worlds(self):
        for plain in PROGRAMS:
            every = standing(plain)
            for thing in range(plain[0]):
                self.assertEqual(standing(wanted(plain, thing)), [world for world in every if thing in world])
                self.assertEqual(standing(unwanted(plain, thing)), [world for world in every if thing not in world])

    def test_one_behind_the_other(self):
        told = unwanted(wanted((2, [("may", 0, [])]), 0), 1)
        self.assertEqual(told, (2, [("may", 0, []), ("never", None, [("out", 0)]), ("never", None, [("in", 1)])]))


class InAllAndInSome(Case):
    def test_in_all(self):
        self.assertEqual(self.ask_all(PLAIN, 3), "yes")
        self.assertEqual(self.ask_all(PLAIN, 0), ("no", [1, 2, 3]))
        self.assertEqual(self.ask_all(PLAIN, 1), ("no", [0, 3]))
        self.assertEqual(self.ask_all(PLAIN, 2), ("no", [0, 3]))
        self.assertEqual(self.ask_all(PLAIN, 4), ("no", [0, 3]))

    def test_in_some(self):
        self.assertEqual(self.ask_some(PLAIN, 4), "no")
        self.assertEqual(self.ask_some(PLAIN, 0), ("yes", [0, 3]))
        self.assertEqual(self.ask_some(PLAIN, 1), ("yes", [1, 2, 3]))
        self.assertEqual(self.ask_some(PLAIN, 2), ("yes", [1, 2, 3]))
        self.assertEqual(self.ask_some(PLAIN, 3), ("yes", [0, 3]))

    def test_the_first_world_in_order(self):
        free = (4, [("may", thing, []) for thing in range(4)])
        self.assertEqual(self.ask_all(free, 0), ("no", [1, 2, 3]))
        self.assertEqual(self.ask_all(free, 2), ("no", [0, 1, 3]))
        self.assertEqual(self.ask_some(free, 0), ("yes", [0, 1, 2, 3]))
        self.assertEqual(self.ask_some((4, free[1] + [("never", None, [("in", 0), ("in", 3)])]), 3),
                         ("yes", [1, 2, 3]))

    def test_where_there_is_no_world(self):
        plain = (2, [("may", 0, []), ("make", 1, [("out", 1)])])
        for thing in (0, 1):
            self.assertEqual(self.ask_all(plain, thing), "yes")
            self.assertEqual(self.ask_some(plain, thing), "no")

    def test_where_there_is_one_world(self):
        plain = (2, [("make", 0, [])])
        self.assertEqual(self.ask_all(plain, 0), "yes")
        self.assertEqual(self.ask_some(plain, 0), ("yes", [0]))
        self.assertEqual(self.ask_all(plain, 1), ("no", [0]))
        self.assertEqual(self.ask_some(plain, 1), "no")
        self.assertEqual(self.ask_all((1, []), 0), ("no", []))

    def test_beside_all_sets(self):
        seen = {}
        for plain in PROGRAMS:
            every = in_order(standing(plain))
            for thing in range(plain[0]):
                having = [world for world in every if thing in world]
                lacking = [world for world in every if thing not in world]
                told_all, told_some = self.ask_all(plain, thing), self.ask_some(plain, thing)
                self.assertEqual(told_all, ("no", lacking[0]) if lacking else "yes")
                self.assertEqual(told_some, ("yes", having[0]) if having else "no")
                case = (min(len(having), 2), min(len(lacking), 2))
                seen[case] = seen.get(case, 0) + 1
        self.assertEqual(len(seen), 9)

    def test_large(self):
        items = [(thing, HUGE) for thing in range(60)]
        rules = [("may", thing, []) for thing in range(59)]
        rules += [("make", 59, [("least", 30 * HUGE, items[:59])]), ("never", None, [("least", 31 * HUGE, items[:59])])]
        plain = (60, rules)
        self.assertEqual(self.ask_some(plain, 59), ("yes", list(range(30)) + [59]))
        self.assertEqual(self.ask_all(plain, 59), ("no", list(range(29))))
        self.assertTrue(stands(plain, in_all(plain, 0)[1]))
        sure = (60, rules + [("never", None, [("most", 29 * HUGE, items[10:40])])])
        self.assertEqual(self.ask_all(sure, 59), "yes")
        self.assertEqual(self.ask_some(sure, 0), "no")

    def test_402_rules(self):
        plain = (60, [("may", number % 60, [("out", 59)]) for number in range(402)])
        self.assertEqual(self.ask_some(plain, 59), "no")
        self.assertEqual(self.ask_all(plain, 59), ("no", list(range(59))))
        self.assertEqual(self.ask_all(plain, 0), ("no", list(range(1, 59))))

    def test_argument_names(self):
        self.assertEqual(in_all(plain=PLAIN, thing=0), ("no", [1, 2, 3]))
        self.assertEqual(in_some(plain=PLAIN, thing=0), ("yes", [0, 3]))
        self.assertEqual(wanted(plain=(1, []), thing=0), (1, [("never", None, [("out", 0)])]))
        self.assertEqual(unwanted(plain=(1, []), thing=0), (1, [("never", None, [("in", 0)])]))


class HandedInAndTold(Case):
    def test_what_is_handed_in_stays(self):
        for plain in PROGRAMS:
            kept = copy.deepcopy(plain)
            for thing in range(plain[0]):
                for ask in (wanted, unwanted, in_all, in_some):
                    ask(plain, thing)
            self.assertEqual(plain, kept)

    def test_told_lists_are_new(self):
        for plain in PROGRAMS:
            for thing in range(plain[0]):
                for ask in (wanted, unwanted, in_all, in_some):
                    first, second = ask(plain, thing), ask(plain, thing)
                    self.assertEqual(first, second)
                    self.assertFalse(share_a_list(first, second, plain))

    def test_lists_within_what_is_told_too(self):
        items = [(0, 1)]
        parts = [("least", 1, items)]
        rules = [("make", 0, parts)]
        told = [wanted((1, rules), 0), unwanted((1, rules), 0), in_all((1, rules), 0), in_some((1, rules), 0)]
        kept = copy.deepcopy(told)
        items.append((0, 2))
        parts.append(("in", 0))
        rules.append(("make", 0, []))
        self.assertEqual(told, kept)
        for one in lists_in(told[0]):
            one.clear()
        self.assertEqual((items, parts[1:], rules[1:]), ([(0, 1), (0, 2)], [("in", 0)], [("make", 0, [])]))
        self.assertEqual(told[1:], kept[1:])
        self.assertEqual(wanted((1, []), 0), (1, [("never", None, [("out", 0)])]))


if __name__ == "__main__":
    unittest.main()
