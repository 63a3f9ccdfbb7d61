"""Rows looked at by their names [38], the ways of pairs [39], and [2]."""

import copy
import itertools
import random
import unittest

from standstill.errors import BadName, NoRow, NoThing, StillError, Wide
from standstill.kinds import kinds_of, ways
from standstill.putting import plain_of
from standstill.reading import read
from rows import KINDS, Maker, all_names, names_are_right
from ways import lists_in, share_a_list

TWO = "kind k a b\nkind m c\n"


class Case(unittest.TestCase):
    def right(self, *texts):
        """Looks whether the names of the rows, behind the kinds k and m, are right."""
        for text in texts:
            with self.subTest(text=text):
                rows = read(TWO + text)
                self.assertEqual(kinds_of(rows)[:2], [("k", ["a", "b"]), ("m", ["c"])])
                plain_of(rows)

    def bad(self, *texts):
        """Looks whether the rows, behind the kinds k and m, are refused, by plain_of too."""
        for text in texts:
            with self.subTest(text=text):
                rows = read(TWO + text)
                with self.assertRaises(BadName):
                    kinds_of(rows)
                with self.assertRaises(BadName):
                    plain_of(rows)


class Kinds(Case):
    def test_none(self):
        self.assertEqual(kinds_of([]), [])
        self.assertEqual(kinds_of(read("rule a\nnever b")), [])

    def test_in_the_rows_order(self):
        self.assertEqual(kinds_of(read("kind m c b\nrule a\nkind k z y x\nmay b(X) for X in m\nkind a a")),
                         [("m", ["c", "b"]), ("k", ["z", "y", "x"]), ("a", ["a"])])

    def test_forms(self):
        told = kinds_of(read(TWO))
        self.assertIs(type(told), list)
        self.assertEqual([type(one) for one in told], [tuple, tuple])
        self.assertEqual([type(one[1]) for one in told], [list, list])

    def test_twelve_names(self):
        names = list("abcdefghijkl")
        self.assertEqual(kinds_of(read("kind k " + " ".join(names))), [("k", names)])

    def test_a_kind_told_twice(self):
        self.bad("kind k c", "kind k a b", "kind m a", "kind n a\nrule p\nkind n b", "rule p\nkind k a")

    def test_a_name_twice_in_a_kind(self):
        self.bad("kind n a a", "kind n a b a", "kind n b a b c", "kind n a b c d e f g h i j l a")

    def test_a_name_in_several_kinds(self):
        self.right("kind n a b c", "kind n a\nkind o a b\nrule p(X,Y) for X in n, Y in o")

    def test_a_kind_called_like_other_things(self):
        self.right("rule k", "rule k(k) if not m(X) for X in k", "kind n n", "kind a b", "kind n k m", "rule n\nkind n a")

    def test_names_in_brackets_of_no_kind(self):
        self.right("rule p(z)", "never p(z,X) and q(y) for X in k", "choose 1 to 1 of p(z,k) if z unlike y")


class Pairs(Case):
    def test_of_no_kind(self):
        self.bad("rule p for X in n", "may p for X in n", "never p for X in n", "choose 1 to 1 of p for X in n",
                 "choose 1 to 1 of p over X in n", "rule p if least 1 of q over X in n", "never most 1 of q over X in n",
                 "choose 1 to 1 of p if most 1 of q over X in n", "rule p(X) for X in a", "rule p for X in k, Y in n",
                 "rule p for X in p", "never least 1 of q over X in k, Y in n", "may p if q and least 1 of q over X in n")

    def test_of_a_kind_that_only_a_later_row_tells(self):
        for row in ("rule p for X in n", "may p for X in n", "never p for X in n", "choose 1 to 1 of p for X in n",
                    "choose 1 to 1 of p over X in n", "rule p if least 1 of q over X in n", "never most 1 of q over X in n"):
            self.bad(row + "\nkind n a")
            self.right("kind n a\n" + row)

    def test_a_variable_twice_behind_for(self):
        self.bad("rule p for X in k, X in k", "may p for X in k, Y in k, X in m", "never p for X in k, X in m",
                 "choose 1 to 1 of p for Y in k, X in m, X in m")
        self.right("rule p for X in k, Y in k, Z in k")

    def test_a_variable_twice_behind_over(self):
        self.bad("choose 1 to 1 of p over X in k, X in k", "rule p if least 1 of q over X in k, X in m",
                 "never most 1 of q over X in k, X in k", "never q and least 1 of q over X in k and most 1 of q over Y in k, Y in m")
        self.right("never least 1 of q over X in k, Y in k")

    def test_a_variable_behind_both(self):
        self.bad("choose 1 to 1 of p over X in k for X in k", "rule p if least 1 of q over X in k for X in m",
                 "never most 1 of q over Y in k, X in k for X in k", "may p if most 1 of q over Z in k for X in k, Y in k, Z in k",
                 "choose 1 to 1 of p if least 1 of q over X in k for X in k")

    def test_a_variable_behind_two_overs(self):
        self.right("never least 1 of p(X) over X in k and most 1 of q(X) over X in k",
                   "choose 1 to 1 of p(X) over X in k if least 1 of q(X) over X in m",
                   "rule p if least 1 of q(X) over X in k and least 1 of q(X) over X in k")

    def test_a_variable_in_two_rows(self):
        self.right("rule p(X) for X in k\nrule q(X) for X in m", "never least 1 of p(X) over X in k\nrule q(X) for X in m")

    def test_a_variable_that_is_not_used(self):
        self.right("rule p for X in k", "choose 1 to 1 of p over X in k for Y in m", "never p and most 1 of q over X in k")


class Variables(Case):
    def test_in_a_head(self):
        self.bad("rule p(X)", "may p(X)", "rule p(X) for Y in k", "may p(a,X) for Y in k", "rule p(X) if q",
                 "rule p(a,b,Z) for X in k, Y in k", "rule p(Xx) for X in k", "rule p(X) for Xx in k")
        self.right("rule p(X) for X in k", "may p(a,X,Y) for X in k, Y in k", "rule p(X,X) for X in k")

    def test_in_a_part(self):
        for form in ("rule p if {}", "may p if {}", "never {}", "never q and {}", "choose 1 to 1 of p if {}"):
            for part in ("q(X)", "not q(X)", "q(a,X)", "not q(a,b,X)", "least 1 of q(X)", "most 1 of q(X)", "least 1 of q, r(X)",
                         "most 1 of q(X), r", "least 1 of 0 q(X)", "least 1 of q(X) over Y in k"):
                row = form.format(part)
                self.bad(row, row + " for Z in k")
                self.right(row + " for X in k", row + " for Z in k, X in m")

    def test_in_an_unlike_part(self):
        for form in ("rule p if {}", "may p if q and {}", "never q and {}", "never {} and q", "choose 1 to 1 of p if {}"):
            for part in ("X unlike a", "a unlike X", "X unlike X"):
                row = form.format(part)
                self.bad(row, row + " for Y in k")
                self.right(row + " for X in k")
            self.bad(form.format("X unlike Y") + " for X in k", form.format("X unlike Y") + " for Y in k")
            self.right(form.format("X unlike Y") + " for X in k, Y in m", form.format("a unlike z"))

    def test_in_items(self):
        for form in ("choose 1 to 1 of {}", "rule p if least 1 of {}", "never most 1 of {}", "choose 1 to 1 of p if least 1 of {}"):
            for item in ("q(X)", "q, r(X)", "2 q(X)", "0 q(a,X)", "q(Y), r(X)"):
                row = form.format(item)
                self.bad(row, row + " over Y in k", row + " for Y in k", row + " over Y in k for Z in k")
                self.right(row + " over X in k, Y in k", row + " for X in k, Y in k", row + " over X in k for Y in m",
                           row + " over Y in k for X in m")

    def test_of_an_over_outside_its_items(self):
        self.bad("rule p(X) if least 1 of q(X) over X in k", "may p(X) if most 1 of q(X) over X in k",
                 "never q(X) and least 1 of q(X) over X in k", "never least 1 of q(X) over X in k and not q(X)",
                 "never least 1 of q(X) over X in k and X unlike a", "never q and a unlike X and least 1 of q(X) over X in k",
                 "never least 1 of q(X) over X in k and least 1 of q(X)",
                 "never least 1 of q(X) and most 1 of q(X) over X in k",
                 "choose 1 to 1 of p(X) over X in k if q(X)", "choose 1 to 1 of p(X) over X in k if not q(X)",
                 "choose 1 to 1 of p(X) over X in k if X unlike a", "choose 1 to 1 of p(X) over X in k if least 1 of q(X)",
                 "choose 1 to 1 of p(X) if least 1 of q(X) over X in k")

    def test_of_an_earlier_row(self):
        self.bad("rule p for X in k\nrule q(X)", "rule p(X)\nrule q for X in k")


class ByChance(Case):
    def test_beside_the_words(self):
        maker = Maker(random.Random(101), faults=True)
        seen = {True: 0, False: 0}
        for count in range(1500):
            rows = maker.rows(3)
            if maker.dice.randrange(8) == 0:
                rows = maker.dice.sample(rows, len(rows))
            if maker.dice.randrange(8) == 0:
                rows = rows + [maker.dice.choice((("kind", "k", ["z"]), ("kind", "n", ["a", "a"]), ("kind", "n", ["a"])))]
            right = names_are_right(rows)
            seen[right] += 1
            if right:
                self.assertEqual(kinds_of(rows), [row[1:] for row in rows if row[0] == "kind"])
                continue
            for ask in (kinds_of, plain_of):
                with self.assertRaises(BadName):
                    ask(rows)
        self.assertGreater(min(seen.values()), 200)

    def test_the_refusal(self):
        for taken in (StillError, ValueError):
            with self.assertRaises(taken):
                kinds_of(read("rule p(X)"))
        try:
            kinds_of(read("rule p(X)"))
        except (NoRow, Wide, NoThing):
            self.fail("taken as another one")
        except BadName:
            pass


SOME = [("k", ["b", "a", "c"]), ("m", ["z"]), ("n", ["x", "b"])]


class Ways(Case):
    def test_of_no_pairs(self):
        self.assertEqual(ways([], SOME), [[]])
        self.assertEqual(ways([], []), [[]])

    def test_of_one_pair(self):
        self.assertEqual(ways([("X", "k")], SOME), [["b"], ["a"], ["c"]])
        self.assertEqual(ways([("Y", "m")], SOME), [["z"]])

    def test_of_two_pairs(self):
        self.assertEqual(ways([("X", "k"), ("Y", "n")], SOME),
                         [["b", "x"], ["b", "b"], ["a", "x"], ["a", "b"], ["c", "x"], ["c", "b"]])
        self.assertEqual(ways([("Y", "n"), ("X", "k")], SOME),
                         [["x", "b"], ["x", "a"], ["x", "c"], ["b", "b"], ["b", "a"], ["b", "c"]])

    def test_two_pairs_of_the_same_kind(self):
        self.assertEqual(ways([("X", "n"), ("Y", "n")], SOME), [["x", "x"], ["x", "b"], ["b", "x"], ["b", "b"]])

    def test_of_three_pairs(self):
        self.assertEqual(ways([("X", "n"), ("Y", "m"), ("Z", "n")], SOME),
                         [["x", "z", "x"], ["x", "z", "b"], ["b", "z", "x"], ["b", "z", "b"]])
        told = ways([("X", "n"), ("Y", "n"), ("Z", "n")], SOME)
        self.assertEqual(told, [list(way) for way in itertools.product(["x", "b"], repeat=3)])

    def test_the_most_ways(self):
        names = list("lkjihgfedcba")
        told = ways([("X", "k"), ("Y", "k"), ("Z", "k")], [("k", names)])
        self.assertEqual(told, [list(way) for way in itertools.product(names, repeat=3)])

    def test_forms(self):
        told = ways([("X", "n"), ("Y", "m")], SOME)
        self.assertIs(type(told), list)
        self.assertTrue(all(type(way) is list for way in told))

    def test_beside_the_words(self):
        dice = random.Random(102)
        for count in range(100):
            pairs = [(variable, dice.choice("kmn")) for variable in "XYZ"[:dice.randrange(4)]]
            told = [list(names.values()) for names in all_names(pairs, SOME)]
            self.assertEqual(ways(pairs, SOME), told)

    def test_kinds_as_kinds_of_tells_them(self):
        self.assertEqual(ways([("X", "m"), ("Y", "k")], kinds_of(read(TWO))), [["c", "a"], ["c", "b"]])

    def test_argument_names(self):
        self.assertEqual(ways(pairs=[("X", "m")], kinds=SOME), [["z"]])
        self.assertEqual(kinds_of(rows=read("kind m c")), [("m", ["c"])])


class HandedInAndTold(Case):
    def test_what_is_handed_in_stays(self):
        maker = Maker(random.Random(103))
        for count in range(100):
            rows = maker.rows(3)
            kept = copy.deepcopy(rows)
            kinds = kinds_of(rows)
            self.assertEqual(rows, kept)
            kept = copy.deepcopy(kinds)
            pairs = [("X", "k"), ("Y", "m"), ("Z", "k")]
            ways(pairs, kinds)
            self.assertEqual((kinds, pairs), (kept, [("X", "k"), ("Y", "m"), ("Z", "k")]))

    def test_what_is_refused_stays(self):
        rows = read(TWO + "kind n z\nrule p(X) if least 1 of q(Z) over Z in n for Y in k")
        kept = copy.deepcopy(rows)
        with self.assertRaises(BadName):
            kinds_of(rows)
        self.assertEqual(rows, kept)

    def test_kinds_are_new(self):
        rows = copy.deepcopy(KINDS)
        first, second = kinds_of(rows), kinds_of(rows)
        self.assertFalse(share_a_list(first, second, rows))
        for one in lists_in(first):
            one.append("more")
        self.assertEqual(rows, KINDS)
        self.assertEqual(second, [("k", ["a", "b"]), ("m", ["b"])])
        rows[0][2].append("z")
        rows.append(("kind", "n", ["a"]))
        self.assertEqual(second, [("k", ["a", "b"]), ("m", ["b"])])

    def test_ways_are_new(self):
        kinds = copy.deepcopy(SOME)
        for pairs in ([], [("X", "k")], [("X", "m"), ("Y", "n")]):
            first, second = ways(pairs, kinds), ways(pairs, kinds)
            kept = copy.deepcopy(second)
            self.assertFalse(share_a_list(first, second, kinds, pairs))
            for one in lists_in(first):
                one.append("more")
            self.assertEqual((second, kinds), (kept, SOME))
            self.assertEqual(ways(pairs, kinds), kept)


if __name__ == "__main__":
    unittest.main()
