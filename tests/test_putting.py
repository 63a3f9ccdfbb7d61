"""Rows put to plain rules [39] [40], the table and what is too wide [41], and [2]."""

import copy
import random
import unittest

from standstill.errors import BadName, NoRow, NoThing, StillError, Wide
from standstill.putting import plain_of
from standstill.reading import read
from rows import Maker, made_up_rows, put_by_the_words
from ways import lists_in, share_a_list

TWO = "kind k a b\nkind m c\n"


def letters(number):
    """A name of its own for each number below 676."""
    return chr(97 + number // 26) + chr(97 + number % 26)


def things(many):
    """So many things' texts, with commas between."""
    return ", ".join("t" + letters(number) for number in range(many))


class Case(unittest.TestCase):
    def put(self, text, table, rules):
        told = plain_of(read(text))
        self.assertEqual(told, (table, (len(table), rules)))
        self.assertEqual(told, put_by_the_words(read(text)))

    def wide(self, *texts):
        for text in texts:
            with self.subTest(text=text[:200]):
                self.assertEqual(put_by_the_words(read(text)), "Wide")
                with self.assertRaises(Wide):
                    plain_of(read(text))

    def narrow(self, text):
        told = plain_of(read(text))
        self.assertEqual(told, put_by_the_words(read(text)))
        return told


class RulesMaysNevers(Case):
    def test_no_rows(self):
        self.put("", [], [])

    def test_kinds_give_nothing(self):
        self.put(TWO, [], [])
        self.put("kind k a\nrule p\nkind m b\n", ["p"], [("make", 0, [])])

    def test_without_a_body(self):
        self.put("rule p", ["p"], [("make", 0, [])])
        self.put("may p", ["p"], [("may", 0, [])])

    def test_parts(self):
        self.put("rule p if q and not r", ["p", "q", "r"], [("make", 0, [("in", 1), ("out", 2)])])
        self.put("may p if not p", ["p"], [("may", 0, [("out", 0)])])
        self.put("never q and not p", ["q", "p"], [("never", None, [("in", 0), ("out", 1)])])
        self.put("never least 2 of p, 3 q, 0 p", ["p", "q"], [("never", None, [("least", 2, [(0, 1), (1, 3), (0, 0)])])])
        self.put("rule p if most -1 of q and least 0 of p", ["p", "q"],
                 [("make", 0, [("most", -1, [(1, 1)]), ("least", 0, [(0, 1)])])])

    def test_parts_stay_in_their_order(self):
        self.put("never not d and least 1 of c and b and most 1 of a and b", ["d", "c", "b", "a"],
                 [("never", None, [("out", 0), ("least", 1, [(1, 1)]), ("in", 2), ("most", 1, [(3, 1)]), ("in", 2)])])

    def test_rows_stay_in_their_order(self):
        self.put("never p\nmay p\nrule q\nrule p", ["p", "q"],
                 [("never", None, [("in", 0)]), ("may", 0, []), ("make", 1, []), ("make", 0, [])])

    def test_a_row_twice(self):
        self.put("rule p\nrule p", ["p"], [("make", 0, []), ("make", 0, [])])

    def test_texts_of_things(self):
        self.put("rule p(a) if p(a,b) and p(a,b,c) and p and a", ["p(a)", "p(a,b)", "p(a,b,c)", "p", "a"],
                 [("make", 0, [("in", 1), ("in", 2), ("in", 3), ("in", 4)])])
        self.put("rule p ( a , b )\nmay p(a,b)", ["p(a,b)"], [("make", 0, []), ("may", 0, [])])

    def test_variables(self):
        self.put(TWO + "rule p(X) for X in k", ["p(a)", "p(b)"], [("make", 0, []), ("make", 1, [])])
        self.put(TWO + "may p(X,z,X) if q(Y) for X in k, Y in m", ["p(a,z,a)", "q(c)", "p(b,z,b)"],
                 [("may", 0, [("in", 1)]), ("may", 2, [("in", 1)])])
        self.put(TWO + "never p(X) and not q(X) for X in k", ["p(a)", "q(a)", "p(b)", "q(b)"],
                 [("never", None, [("in", 0), ("out", 1)]), ("never", None, [("in", 2), ("out", 3)])])

    def test_a_name_like_a_variables_small_letter(self):
        self.put("kind k x y\nrule p(X,x) for X in k", ["p(x,x)", "p(y,x)"], [("make", 0, []), ("make", 1, [])])

    def test_a_variable_that_is_not_used(self):
        self.put(TWO + "rule p for X in k", ["p"], [("make", 0, []), ("make", 0, [])])

    def test_the_first_variable_goes_slowest(self):
        self.put("kind k b a\nkind m c d\nrule p(Y,X) for X in k, Y in m", ["p(c,b)", "p(d,b)", "p(c,a)", "p(d,a)"],
                 [("make", 0, []), ("make", 1, []), ("make", 2, []), ("make", 3, [])])
        table = ["p" + way for way in ("(a,a,a)", "(a,a,b)", "(a,b,a)", "(a,b,b)", "(b,a,a)", "(b,a,b)", "(b,b,a)", "(b,b,b)")]
        self.put("kind k a b\nmay p(X,Y,Z) for X in k, Y in k, Z in k", table, [("may", number, []) for number in range(8)])


class Unlikes(Case):
    def test_two_variables(self):
        self.put(TWO + "rule p(X,Y) if X unlike Y for X in k, Y in k", ["p(a,b)", "p(b,a)"], [("make", 0, []), ("make", 1, [])])
        self.put("kind k a b\nkind m b c\nmay p(X,Y) if X unlike Y for X in k, Y in m", ["p(a,b)", "p(a,c)", "p(b,c)"],
                 [("may", 0, []), ("may", 1, []), ("may", 2, [])])

    def test_a_name_and_a_variable(self):
        for part in ("X unlike a", "a unlike X"):
            self.put(TWO + f"rule p(X) if {part} for X in k", ["p(b)"], [("make", 0, [])])
        self.put(TWO + "rule p(X) if X unlike z for X in k", ["p(a)", "p(b)"], [("make", 0, []), ("make", 1, [])])

    def test_two_names(self):
        self.put("rule p if a unlike a", [], [])
        self.put("rule p if a unlike b", ["p"], [("make", 0, [])])
        self.put("rule p if a unlike b and b unlike b\nrule q", ["q"], [("make", 0, [])])
        self.put("choose 1 to 1 of p if a unlike a", [], [])
        self.put("never p and a unlike a", [], [])

    def test_the_same_variable(self):
        self.put(TWO + "rule p(X) if X unlike X for X in k\nmay q", ["q"], [("may", 0, [])])

    def test_one_of_several(self):
        self.put("kind k a b c\nnever p(X,Y,Z) and X unlike Y and Y unlike Z and X unlike Z for X in k, Y in k, Z in k",
                 ["p(a,b,c)", "p(a,c,b)", "p(b,a,c)", "p(b,c,a)", "p(c,a,b)", "p(c,b,a)"],
                 [("never", None, [("in", number)]) for number in range(6)])

    def test_they_are_left_out_wherever_they_stand(self):
        self.put(TWO + "never X unlike a and p and a unlike b and not q and c unlike X for X in k", ["p", "q"],
                 [("never", None, [("in", 0), ("out", 1)])])

    def test_things_of_ways_that_give_nothing_are_not_in_the_table(self):
        self.put(TWO + "rule p(X) if q(X) and X unlike a for X in k", ["p(b)", "q(b)"], [("make", 0, [("in", 1)])])


class Items(Case):
    def test_over_one_pair(self):
        self.put(TWO + "never least 2 of p(X) over X in k", ["p(a)", "p(b)"], [("never", None, [("least", 2, [(0, 1), (1, 1)])])])

    def test_item_by_item(self):
        self.put(TWO + "never most 2 of 3 p(X), q, 0 r(X) over X in k", ["p(a)", "p(b)", "q", "r(a)", "r(b)"],
                 [("never", None, [("most", 2, [(0, 3), (1, 3), (2, 1), (2, 1), (3, 0), (4, 0)])])])

    def test_over_two_pairs(self):
        self.put("kind k a b\nkind m d c\nrule q if least 1 of p(Y,X) over X in k, Y in m",
                 ["q", "p(d,a)", "p(c,a)", "p(d,b)", "p(c,b)"],
                 [("make", 0, [("least", 1, [(1, 1), (2, 1), (3, 1), (4, 1)])])])

    def test_with_variables_of_the_row(self):
        self.put(TWO + "rule q(Y) if most 1 of p(X,Y) over X in k for Y in k",
                 ["q(a)", "p(a,a)", "p(b,a)", "q(b)", "p(a,b)", "p(b,b)"],
                 [("make", 0, [("most", 1, [(1, 1), (2, 1)])]), ("make", 3, [("most", 1, [(4, 1), (5, 1)])])])

    def test_a_variable_of_two_overs(self):
        self.put(TWO + "never least 1 of p(X) over X in k and most 0 of p(X) over X in m", ["p(a)", "p(b)", "p(c)"],
                 [("never", None, [("least", 1, [(0, 1), (1, 1)]), ("most", 0, [(2, 1)])])])

    def test_the_same_thing_several_times(self):
        self.put(TWO + "never least 2 of p, 2 p over X in k, Y in k", ["p"],
                 [("never", None, [("least", 2, [(0, 1)] * 4 + [(0, 2)] * 4)])])


class Chooses(Case):
    def test_without_a_body(self):
        self.put("choose 1 to 2 of p, q, 2 r", ["p", "q", "r"],
                 [("may", 0, []), ("may", 1, []), ("may", 2, []),
                  ("never", None, [("most", 0, [(0, 1), (1, 1), (2, 2)])]),
                  ("never", None, [("least", 3, [(0, 1), (1, 1), (2, 2)])])])

    def test_with_a_body(self):
        self.put("choose 2 to 2 of p if q and not r and least 1 of p", ["p", "q", "r"],
                 [("may", 0, [("in", 1), ("out", 2), ("least", 1, [(0, 1)])]),
                  ("never", None, [("in", 1), ("out", 2), ("least", 1, [(0, 1)]), ("most", 1, [(0, 1)])]),
                  ("never", None, [("in", 1), ("out", 2), ("least", 1, [(0, 1)]), ("least", 3, [(0, 1)])])])

    def test_over_pairs(self):
        items = [(0, 1), (1, 1), (2, 0), (2, 0)]
        self.put(TWO + "choose 1 to 1 of p(X), 0 q over X in k", ["p(a)", "p(b)", "q"],
                 [("may", 0, []), ("may", 1, []), ("may", 2, []), ("may", 2, []),
                  ("never", None, [("most", 0, items)]), ("never", None, [("least", 2, items)])])

    def test_over_and_for(self):
        first, second = [(0, 1), (2, 1)], [(3, 1), (5, 1)]
        self.put("kind k a b\nchoose 0 to 1 of p(X,Y) over X in k if q(Y) for Y in k",
                 ["p(a,a)", "q(a)", "p(b,a)", "p(a,b)", "q(b)", "p(b,b)"],
                 [("may", 0, [("in", 1)]), ("may", 2, [("in", 1)]),
                  ("never", None, [("in", 1), ("most", -1, first)]), ("never", None, [("in", 1), ("least", 2, first)]),
                  ("may", 3, [("in", 4)]), ("may", 5, [("in", 4)]),
                  ("never", None, [("in", 4), ("most", -1, second)]), ("never", None, [("in", 4), ("least", 2, second)])])

    def test_unlike(self):
        self.put(TWO + "choose 1 to 1 of p(X) if X unlike a for X in k", ["p(b)"],
                 [("may", 0, []), ("never", None, [("most", 0, [(0, 1)])]), ("never", None, [("least", 2, [(0, 1)])])])

    def test_low_above_high(self):
        self.put("choose 3 to 1 of p", ["p"],
                 [("may", 0, []), ("never", None, [("most", 2, [(0, 1)])]), ("never", None, [("least", 2, [(0, 1)])])])

    def test_numbers_below_0(self):
        self.put("choose -4 to -2 of p", ["p"],
                 [("may", 0, []), ("never", None, [("most", -5, [(0, 1)])]), ("never", None, [("least", -1, [(0, 1)])])])
        self.put("choose 0 to -1 of p", ["p"],
                 [("may", 0, []), ("never", None, [("most", -1, [(0, 1)])]), ("never", None, [("least", 0, [(0, 1)])])])

    def test_numbers_of_many_figures(self):
        nines = "9" * 30
        great = 10 ** 30
        self.put(f"choose -{nines} to {nines} of {nines} p", ["p"],
                 [("may", 0, []), ("never", None, [("most", -great, [(0, great - 1)])]),
                  ("never", None, [("least", great, [(0, great - 1)])])])


class Table(Case):
    def test_head_parts_items(self):
        self.put("rule e if not d and least 1 of c, f, b and a and most 1 of g, a\nrule h if e", list("edcfbagh"),
                 [("make", 0, [("out", 1), ("least", 1, [(2, 1), (3, 1), (4, 1)]), ("in", 5), ("most", 1, [(6, 1), (5, 1)])]),
                  ("make", 7, [("in", 0)])])

    def test_a_choices_body_stands_behind_its_first_item(self):
        self.assertEqual(plain_of(read("choose 1 to 1 of p, q if r and s"))[0], ["p", "r", "s", "q"])

    def test_one_plain_rule_behind_the_other(self):
        self.assertEqual(plain_of(read("kind k b a\nrule p(X) if q(X) for X in k\nrule q(a)"))[0], ["p(b)", "q(b)", "p(a)", "q(a)"])

    def test_forms(self):
        told = plain_of(read(TWO + "choose 1 to 1 of p(X) over X in k if q"))
        self.assertEqual([type(told), type(told[0]), type(told[1]), type(told[1][0]), type(told[1][1])],
                         [tuple, list, tuple, int, list])
        for rule in told[1][1]:
            self.assertEqual((type(rule), len(rule), type(rule[2])), (tuple, 3, list))
            self.assertTrue(all(type(part) is tuple for part in rule[2]))
            self.assertTrue(all(type(part[2]) is list for part in rule[2] if part[0] in ("least", "most")))

    def test_argument_name(self):
        self.assertEqual(plain_of(rows=[]), ([], (0, [])))


class TooWide(Case):
    twelve = "kind k a b c d e f g h i j l m\n"

    def test_400_rules(self):
        self.assertEqual(len(self.narrow("rule p\n" * 400)[1][1]), 400)
        self.wide("rule p\n" * 401)
        self.wide("rule p\n" * 402)

    def test_400_rules_by_ways(self):
        ways = self.twelve + "rule p if q for X in k, Y in k\n" * 2 + "never p for X in k\n" * 9
        self.assertEqual(len(self.narrow(ways + "may q\n" * 4)[1][1]), 400)
        self.wide(ways + "may q\n" * 5)
        self.wide(self.twelve + "rule p for X in k, Y in k, Z in k")

    def test_400_rules_by_a_choice(self):
        choose = "choose 1 to 1 of p, q\n"
        self.assertEqual(len(self.narrow(choose * 100)[1][1]), 400)
        self.wide(choose * 100 + "rule p", "rule p\n" + choose * 100, "rule p\n" * 397 + choose)
        self.narrow("rule p\n" * 396 + choose)

    def test_60_things(self):
        rows = "".join(f"rule p(a{letters(number)})\n" for number in range(60))
        self.assertEqual(len(self.narrow(rows)[0]), 60)
        self.wide(rows + "rule q")
        self.narrow(rows + "rule p(aaa) if least 1 of p(aab)")
        self.wide(rows + "never q", rows + "never not q", rows + "never least 1 of p(aaa), 0 q", rows + "rule p(aaa) if most 1 of q",
                  "rule q\n" + rows)

    def test_60_things_by_ways(self):
        self.assertEqual(len(self.narrow(self.twelve + "kind m a b c d e\nrule p(X,Y) for X in k, Y in m")[0]), 60)
        self.wide(self.twelve + "kind m a b c d e f\nrule p(X,Y) for X in k, Y in m")

    def test_60_items(self):
        for form in ("never least 1 of {}", "rule p if most 1 of {}", "may p if q and least 1 of {}",
                     "never most 1 of p and least 1 of {}", "choose 1 to 1 of p if least 1 of {}"):
            self.narrow(form.format(", ".join(["p"] * 60)))
            self.wide(form.format(", ".join(["p"] * 61)))
            self.wide(form.format(", ".join(["0 p"] * 61)))

    def test_60_items_by_ways(self):
        self.narrow(self.twelve + "never least 1 of p, p, p, p, p over X in k")
        self.wide(self.twelve + "never least 1 of p, p, p, p, p, p over X in k")
        self.narrow(self.twelve + "kind m a b c d e\nnever most 1 of p(X,Y) over X in k, Y in m")
        self.wide(self.twelve + "kind m a b c d e f\nnever most 1 of p over X in k, Y in m")
        self.wide(self.twelve + "never most 1 of p over X in k, Y in k")

    def test_items_of_several_parts(self):
        items = ", ".join(["p"] * 60)
        self.narrow(f"never least 1 of {items} and most 1 of {items}")
        self.wide(f"never least 1 of {items} and most 1 of {items}, p")

    def test_60_items_in_a_choice(self):
        self.assertEqual(len(self.narrow(f"choose 1 to 1 of {things(60)}")[1][1]), 62)
        self.narrow("choose 1 to 1 of " + ", ".join(["p"] * 60))
        self.wide("choose 1 to 1 of " + ", ".join(["p"] * 61))
        self.narrow(self.twelve + "choose 1 to 1 of p, p, p, p, p over X in k")
        self.wide(self.twelve + "choose 1 to 1 of p, p, p, p, p, p over X in k")

    def test_many_ways_that_give_nothing(self):
        ways = " for X in k, Y in k, Z in k\n"
        self.put(self.twelve + "rule p(X,Y,Z) if a unlike a" + ways, [], [])
        self.put(self.twelve + "never p(X,Y,Z) and X unlike X" + ways + "rule q", ["q"], [("make", 0, [])])
        self.put(self.twelve + "choose 1 to 1 of p(X,Y,Z) if Z unlike Z" + ways, [], [])
        # Each thirteenth way of two variables gives nothing: 132 of 144 are left.
        self.assertEqual(len(self.narrow(self.twelve + "rule p if X unlike Y for X in k, Y in k\n" * 3)[1][1]), 396)
        self.wide(self.twelve + "rule p if X unlike Y for X in k, Y in k\n" * 3 + "rule p\n" * 5)

    def test_what_gives_nothing_is_not_too_wide(self):
        items = ", ".join(["p"] * 61)
        self.put(f"never least 1 of {items} and a unlike a", [], [])
        self.put(f"choose 1 to 1 of {items} if a unlike a", [], [])
        self.put(f"rule p if most 1 of {things(402)} and a unlike a", [], [])
        self.put("rule p if a unlike a\n" * 401, [], [])
        self.wide(TWO + f"never least 1 of {items} and X unlike a for X in k")

    def test_bad_names_go_ahead(self):
        items = ", ".join(["p"] * 61)
        for text in ("rule p\n" * 401, f"never least 1 of {items}", f"choose 1 to 1 of {items}",
                     "".join(f"rule p(a{letters(number)})\n" for number in range(61))):
            self.wide(text)
            for bad in ("rule p(X)", "rule p for X in none", "kind k a a", "rule p for X in k\nkind k a"):
                for rows in (read(text + "\n" + bad), read(bad + "\n" + text)):
                    with self.assertRaises(BadName):
                        plain_of(rows)

    def test_bad_names_in_rows_that_give_nothing(self):
        with self.assertRaises(BadName):
            plain_of(read("rule p(X) if a unlike a"))

    def test_the_refusal(self):
        for taken in (StillError, ValueError):
            with self.assertRaises(taken):
                plain_of(read("rule p\n" * 401))
        try:
            plain_of(read("rule p\n" * 401))
        except (NoRow, BadName, NoThing):
            self.fail("taken as another one")
        except Wide:
            pass


class ByChance(Case):
    def test_beside_the_words(self):
        sizes = set()
        for rows in made_up_rows(111, 600, most=6):
            told = plain_of(rows)
            self.assertEqual(told, put_by_the_words(rows))
            sizes.add(len(told[0]))
        self.assertEqual(sizes, set(range(7)))

    def test_with_faults(self):
        maker = Maker(random.Random(112), faults=True)
        for count in range(400):
            rows = maker.rows(3)
            told = put_by_the_words(rows)
            if told == "BadName":
                with self.assertRaises(BadName):
                    plain_of(rows)
            else:
                self.assertEqual(plain_of(rows), told)


class HandedInAndTold(Case):
    text = TWO + ("rule p(X) if q and least 1 of r(Y), 2 s over Y in k for X in k\nrule t\n"
                  "choose 1 to 1 of p(X), s over X in k if most 1 of q and t\nnever p(a) and not p(b)\n")

    def test_what_is_handed_in_stays(self):
        for rows in made_up_rows(113, 200) + [read(self.text)]:
            kept = copy.deepcopy(rows)
            plain_of(rows)
            self.assertEqual(rows, kept)

    def test_what_is_refused_stays(self):
        for text in ("rule p\n" * 401, "rule p(X)"):
            rows = read(text)
            kept = copy.deepcopy(rows)
            with self.assertRaises(StillError):
                plain_of(rows)
            self.assertEqual(rows, kept)

    def test_told_lists_are_new(self):
        for rows in made_up_rows(114, 200) + [read(self.text), []]:
            first, second = plain_of(rows), plain_of(rows)
            self.assertEqual(first, second)
            self.assertFalse(share_a_list(first, second, rows))

    def test_told_lists_are_the_askers_own(self):
        rows = read(self.text)
        first, second = plain_of(rows), plain_of(rows)
        kept = copy.deepcopy(first)
        for one in lists_in(first):
            one.append("more")
        self.assertEqual(second, kept)
        self.assertEqual(plain_of(rows), kept)
        for one in lists_in(rows):
            one.clear()
        self.assertEqual(second, kept)


if __name__ == "__main__":
    unittest.main()
