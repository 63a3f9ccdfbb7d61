"""Over the whole program: the promise [3] from text to paper, and what [2] says of whole
numbers, of what is handed in and of what is told."""

import copy
import unittest

from standstill.asks import in_all, in_some, unwanted, wanted
from standstill.desk import Desk
from standstill.judge import built, chain, first_broken, group, judged
from standstill.kinds import kinds_of, ways
from standstill.knowing import fits, loose, pressed, right_step, right_why, spread
from standstill.layers import grown, levels, ring
from standstill.marks import marks, numbers
from standstill.papers import right_line, right_paper
from standstill.parts import Least, Most, part_of
from standstill.putting import plain_of
from standstill.reading import read, read_row
from standstill.rules import body_holds, body_lost, body_sure, breaks, makes, named_in, surely_broken
from standstill.seek import worlds
from standstill.showing import shown_row, shown_rule
from standstill.words import words_of
from rows import made_up_rows, put_by_the_words, text_of_rows
from ways import (all_sets, body_is_held, comes_first, in_order, judged_by_the_words, lists_in, paper_is_right,
                  share_a_list, standing, stands)

SMALL = (
    "",
    "kind k a b",
    "rule a",
    "may a",
    "never a",
    "rule a if a",
    "may a if a",
    "rule a if not a",
    "rule a if not b\nrule b if not a",
    "rule a if b\nrule b if a\nrule c if not a",
    "rule a if b\nrule b if a\nmay a if c\nmay c",
    "may a\nmay b\nnever a and b\nnever not a and not b",
    "choose 1 to 1 of a, b, c",
    "choose 2 to 2 of a, b, c if d\nmay d\nrule e if not d",
    "choose 2 to 1 of a, b, c",
    "choose -1 to -1 of a",
    "choose 3 to 4 of 2 a, 3 b, 1 c, 0 d",
    "kind k a b\nchoose 1 to 1 of p(X,Y) over Y in k for X in k\nnever p(X,Z) and p(Y,Z) and X unlike Y for X in k, Y in k, Z in k",
    "kind k a b c\nrule p(X) if least 2 of q(Y) over Y in k and X unlike a for X in k\nmay q(X) for X in k",
    "kind k a b c\nrule p(X) if p(Y) and X unlike Y for X in k, Y in k\nmay q\nrule p(a) if q",
    "kind k a b c\nrule p(X) if most 0 of p(Y) over Y in k for X in k",
    "rule a if least 1 of a, b\nrule b if least 2 of a, b\nmay c\nrule b if c and not d",
    "rule a if not b\nrule b if not c\nrule c if not a",
    "rule a if not b\nrule b if not c\nrule c if not d\nrule d if not a",
)


class Case(unittest.TestCase):
    def whole(self, text, most=100):
        """Looks, of all sets gone through, whether the promise holds of a text; tells its worlds as texts."""
        table, plain = plain_of(read(text))
        self.assertEqual((table, plain), put_by_the_words(read(text)))
        every = in_order([some for some in all_sets(plain[0]) if stands(plain, some)])
        for many in range(min(len(every) + 2, most)):
            found, whole, paper = worlds(plain, many)
            self.assertEqual((found, whole), (every[:many], many >= len(every)))
            if whole:
                self.assertIs(right_paper(plain, found, paper), True)
                self.assertTrue(paper_is_right(plain, found, paper))
            else:
                self.assertEqual(paper, [])
        for world in every:
            self.begins_with_nothing(plain, world)
        return [[table[thing] for thing in world] for world in every]

    def begins_with_nothing(self, plain, world):
        """Looks whether each thing of a world has its row in a chain, resting on those ahead of it alone."""
        word, links = judged(plain, world)
        self.assertEqual(word, "stands")
        ahead = set()
        for thing, number in links:
            rule = plain[1][number]
            self.assertTrue(makes(rule, thing))
            self.assertTrue(body_is_held(rule, ahead, set(world)))
            self.assertNotIn(thing, ahead)
            ahead.add(thing)
        self.assertEqual(ahead, set(world))


class SmallTexts(Case):
    def test_worlds_beside_all_sets(self):
        for text in SMALL:
            with self.subTest(text=text):
                self.whole(text)

    def test_made_up_texts(self):
        many = set()
        for rows in made_up_rows(131, 250, most=6):
            many.add(min(len(self.whole(text_of_rows(rows), most=3)), 4))
        self.assertEqual(many, {0, 1, 2, 3, 4})

    def test_all_sets_judged(self):
        seen = set()
        for text in SMALL + tuple(text_of_rows(rows) for rows in made_up_rows(132, 60, most=4)):
            table, plain = plain_of(read(text))
            for some in all_sets(plain[0]):
                told = judged(plain, some)
                self.assertEqual(told, judged_by_the_words(plain, some))
                seen.add(told[0])
        self.assertEqual(seen, {"broken", "group", "stands"})

    def test_the_sets_that_stand_by_greatest_groups(self):
        for text in SMALL:
            plain = plain_of(read(text))[1]
            self.assertEqual(in_order(standing(plain)), worlds(plain, 1000)[0])

    def test_shown_put_again_and_sought(self):
        for text in SMALL:
            table, plain = plain_of(read(text))
            again = plain_of(read("\n".join(shown_rule(rule, table) for rule in plain[1])))
            self.assertEqual(again, (table, plain))
            self.assertEqual(worlds(again[1], 9), worlds(plain, 9))

    def test_known_ones(self):
        self.assertEqual(self.whole(""), [[]])
        self.assertEqual(self.whole("rule a if a"), [[]])
        self.assertEqual(self.whole("may a if a"), [[]])
        self.assertEqual(self.whole("rule a if not a"), [])
        self.assertEqual(self.whole("rule a if not b\nrule b if not a"), [["a"], ["b"]])
        self.assertEqual(self.whole("choose 1 to 1 of a, b, c"), [["a"], ["b"], ["c"]])
        self.assertEqual(self.whole("choose 2 to 1 of a, b, c"), [])
        self.assertEqual(self.whole("choose 3 to 4 of 2 a, 3 b, 1 c, 0 d"), [["a", "c", "d"], ["a", "c"], ["b", "c", "d"], ["b", "c"],
                                                                       ["b", "d"], ["b"]])

    def test_the_told_order(self):
        plain = plain_of(read("may a\nmay b\nmay c\nnever b and not c"))[1]
        found = worlds(plain, 9)[0]
        self.assertEqual(found, [[0, 1, 2], [0, 2], [0], [1, 2], [2], []])
        self.assertTrue(all(comes_first(one, other) for one, other in zip(found, found[1:])))


class Chains(Case):
    def test_a_long_chain(self):
        names = [letter + other for letter in "abcde" for other in "abcdefghijkl"]
        lines = [f"rule t({one}) if t({before})" for before, one in zip(names, names[1:])]
        desk = Desk()
        for line in reversed(lines):
            desk.tell(line)
        self.assertEqual(desk.found(2)[:2], ([[]], True))
        every = desk.things()
        self.assertEqual(desk.judge(every), ("group", every))
        desk.tell("may t(aa)")
        texts = [f"t({name})" for name in names]
        self.assertEqual(desk.judge(texts), ("stands", [("t(aa)", "may t(aa)")] + list(zip(texts[1:], lines))))
        self.assertEqual(desk.found(3)[:2], ([every, []], True))

    def test_what_is_reached(self):
        desk = Desk()
        for line in ("kind node a b c d e", "rule way(a,b)", "rule way(b,c)", "rule way(d,e)", "rule way(e,d)",
                     "rule at(a)", "rule at(Y) if at(X) and way(X,Y) for X in node, Y in node",
                     "rule lost(X) if not at(X) for X in node"):
            desk.tell(line)
        found, whole, paper = desk.found(9)
        self.assertTrue(whole)
        self.assertEqual([[text for text in world if text.startswith(("at", "lost"))] for world in found],
                         [["at(a)", "at(b)", "at(c)", "lost(d)", "lost(e)"]])
        self.assertEqual(desk.is_open("at(e)")[0], "no")
        self.assertEqual(desk.is_sure("lost(e)")[0], "yes")
        world = [text for text in found[0] if not text.startswith("lost")]
        self.assertEqual(desk.judge(world + ["at(d)", "at(e)"]), ("group", ["at(d)", "at(e)"]))
        self.assertEqual(desk.judge(world), ("broken", "rule lost(d) if not at(d)"))

    def test_groups_that_hold_up_only_themselves(self):
        desk = Desk()
        for line in ("rule a if b", "rule b if a", "rule c if least 1 of c, d", "rule d if c", "rule e", "may f if e and not a"):
            desk.tell(line)
        self.assertEqual(desk.judge(["a", "b", "e"]), ("group", ["a", "b"]))
        self.assertEqual(desk.judge(["d", "c", "b", "a", "e"]), ("group", ["a", "b", "c", "d"]))
        self.assertEqual(desk.judge(["e", "f", "a", "b"]), ("group", ["a", "b", "f"]))
        self.assertEqual(desk.found(9)[:2], ([["e", "f"], ["e"]], True))
        for text in "abcd":
            self.assertEqual(desk.is_open(text)[0], "no")
        desk.tell("may d if f")
        self.assertEqual(desk.found(9)[:2], ([["c", "d", "e", "f"], ["e", "f"], ["e"]], True))


class LargerTexts(Case):
    def right(self, text, worlds_asked):
        """The worlds of a text as texts, all of them, after their paper was looked at."""
        table, plain = plain_of(read(text))
        found, whole, paper = worlds(plain, worlds_asked)
        self.assertIs(whole, True)
        self.assertIs(right_paper(plain, found, paper), True)
        self.assertTrue(paper_is_right(plain, found, paper))
        for world in found:
            self.assertTrue(stands(plain, world))
            self.begins_with_nothing(plain, world)
        self.assertTrue(all(comes_first(one, other) for one, other in zip(found, found[1:])))
        return [[table[thing] for thing in world] for world in found]

    def test_hues_of_a_ring(self):
        text = ("kind node a b c d e\nkind hue red green blue\n"
                "rule edge(a,b)\nrule edge(b,c)\nrule edge(c,d)\nrule edge(d,e)\nrule edge(e,a)\n"
                "choose 1 to 1 of col(N,H) over H in hue for N in node\n"
                "never edge(N,M) and col(N,H) and col(M,H) and N unlike M for N in node, M in node, H in hue\n")
        self.assertEqual(len(self.right(text, 31)), 30)
        self.assertEqual(self.right(text + "never col(N,blue) for N in node", 1), [])

    def test_the_documents_own_row(self):
        text = ("kind node a b c d\nkind hue red green blue\nchoose 1 to 1 of col(N,H) over H in hue for N in node\n"
                "never col(N,H) and col(M,H) and N unlike M for N in node, M in node, H in hue\n")
        self.assertEqual(self.right(text, 1), [])
        self.assertEqual(len(self.right(text.replace("a b c d", "a b c"), 7)), 6)

    def test_queens(self):
        lines = ["kind row a b c d e f", "kind file a b c d e f", "choose 1 to 1 of q(R,C) over C in file for R in row",
                 "never least 2 of q(R,C) over R in row for C in file"]
        fields = [(row, file) for row in range(6) for file in range(6)]
        for slope in (-1, 1):
            for total in range(-5, 11):
                line = [f"q({'abcdef'[row]},{'abcdef'[file]})" for row, file in fields if row + slope * file == total]
                if len(line) > 1:
                    lines.append("never least 2 of " + ", ".join(line))
        found = self.right("\n".join(lines), 5)
        self.assertEqual(["".join(text[4] for text in world) for world in found], ["bdface", "cfbead", "daebfc", "ecafdb"])

    def test_tours(self):
        text = ("kind node a b c d\nchoose 1 to 1 of go(X,Y) over Y in node for X in node\n"
                "never go(X,X) for X in node\nnever least 2 of go(X,Y) over X in node for Y in node\n"
                "rule at(Y) if go(a,Y) for Y in node\nrule at(Y) if at(X) and go(X,Y) for X in node, Y in node\n"
                "never not at(X) for X in node\n")
        found = self.right(text, 7)
        self.assertEqual(len(found), 6)
        # Without what rests on nothing there are also the three ways of two rings.
        self.assertEqual(len(self.right(text.replace("never not at(X) for X in node\n", ""), 10)), 9)

    def test_pigeons(self):
        text = ("kind bird a b c d\nkind hole x y z\nchoose 1 to 1 of sits(B,H) over H in hole for B in bird\n"
                "never least 2 of sits(B,H) over B in bird for H in hole\n")
        self.assertEqual(self.right(text, 1), [])
        self.assertEqual(len(self.right(text.replace("x y z", "w x y z"), 25)), 24)


PLAIN = (4, [("make", 0, [("out", 1)]), ("make", 1, [("out", 0)]), ("may", 2, [("least", 1, [(0, 1), (1, 1)])]),
             ("make", 3, [("in", 3)]), ("never", None, [("most", 0, [(0, 2), (2, 1)]), ("in", 1), ("out", 3)])])
LAYERED = (3, [("make", 0, []), ("make", 1, [("most", 0, [(2, 1)])]), ("may", 2, [("in", 0)])])
FOUND = worlds(PLAIN, 9)
BARS = [[(0, True), (2, False)], [(1, True)]]
SHEET = [None, None, None, False]
TEXT = ("kind k a b\nkind m c\nrule p(X) if q and least 1 of r(Y), 2 s over Y in k and X unlike a for X in k\n"
        "choose 1 to 1 of p(X), s over X in k if most 1 of q\nmay q\nnever p(a) and not p(b)\n")
ROWS = read(TEXT)
PUT = plain_of(ROWS)

CALLS = (
    (marks, 4, [2, 0, 2]), (numbers, [True, False, True]),
    (named_in, PLAIN[1][4]), (makes, PLAIN[1][2], 2), (body_holds, PLAIN[1][4], [True] * 4, [False] * 4),
    (body_sure, PLAIN[1][4], SHEET), (body_lost, PLAIN[1][2], SHEET, [True, True, False, False]),
    (breaks, PLAIN[1][4], [False, True, False, False]), (surely_broken, PLAIN[1][4], SHEET),
    (first_broken, PLAIN, [1]), (chain, PLAIN, [0, 2]), (built, PLAIN, [0, 3]), (group, PLAIN, [0, 3]),
    (judged, PLAIN, [1]), (judged, PLAIN, [0, 2]), (judged, PLAIN, [0, 3]),
    (levels, PLAIN), (levels, LAYERED), (ring, PLAIN), (ring, LAYERED), (grown, PLAIN), (grown, LAYERED),
    (pressed, PLAIN[1][4], [None, True, False, False]), (loose, PLAIN, SHEET), (fits, SHEET, BARS[0]),
    (right_why, PLAIN, FOUND[0], BARS, SHEET, ("group", [3])), (right_why, PLAIN, FOUND[0], BARS, SHEET, ("bar", 1)),
    (right_step, PLAIN, FOUND[0], BARS, [None] * 4, ((3, False), ("group", [3]))),
    (spread, PLAIN, BARS, SHEET), (spread, PLAIN, [], SHEET), (spread, PLAIN, [], [True, None, None, True]),
    (right_line, PLAIN, FOUND[0], [], FOUND[2][0]), (right_paper, PLAIN, FOUND[0], FOUND[2]),
    (worlds, PLAIN), (worlds, PLAIN, 9), (worlds, PLAIN, 0),
    (wanted, PLAIN, 0), (unwanted, PLAIN, 2), (in_all, PLAIN, 0), (in_all, LAYERED, 0), (in_some, PLAIN, 1), (in_some, PLAIN, 3),
    (words_of, "rule a"), (read_row, "choose 1 to 1 of a(b) over X in k"), (read, TEXT),
    (shown_row, ROWS[2]), (shown_row, ROWS[0]), (shown_row, ROWS[3]), (shown_row, ROWS[5]), (shown_rule, PUT[1][1][0], PUT[0]),
    (kinds_of, ROWS), (ways, [("X", "k"), ("Y", "m")], kinds_of(ROWS)), (ways, [], []), (plain_of, ROWS), (plain_of, []),
)


class HandedInAndTold(Case):
    def test_what_is_handed_in_stays(self):
        for ask, *handed in CALLS:
            with self.subTest(ask=ask.__name__):
                kept = copy.deepcopy(handed)
                ask(*handed)
                self.assertEqual(handed, kept)

    def test_changed_behind_the_call(self):
        for ask, *handed in CALLS:
            with self.subTest(ask=ask.__name__):
                own = copy.deepcopy(handed)
                told = ask(*own)
                kept = copy.deepcopy(told)
                self.assertFalse({id(one) for one in lists_in(told)} & {id(one) for one in lists_in(own)})
                for one in lists_in(own):
                    one.clear()
                self.assertEqual(told, kept)

    def test_told_lists_are_the_askers_own(self):
        for ask, *handed in CALLS:
            with self.subTest(ask=ask.__name__):
                first, second = ask(*handed), ask(*handed)
                kept = copy.deepcopy(second)
                self.assertFalse(share_a_list(first, second))
                for one in lists_in(first):
                    one.append("more")
                self.assertEqual(second, kept)
                self.assertEqual(ask(*handed), kept)

    def test_parts_keep_their_own(self):
        items = [(0, 1), (1, 2)]
        for word, sort in (("least", Least), ("most", Most)):
            own = list(items)
            told = (word, 2, own)
            one, other = sort(2, own), part_of(told)
            own.clear()
            self.assertEqual((one.told(), other.told()), ((word, 2, items), (word, 2, items)))
            one.told()[2].append((3, 3))
            one.named().append(3)
            self.assertEqual((one.told(), one.named()), ((word, 2, items), [0, 1]))

    def test_what_is_told_may_be_handed_back(self):
        told = worlds(PUT[1], 9)
        self.assertTrue(right_paper(PUT[1], told[0], told[2]))
        self.assertEqual(plain_of(read("\n".join(shown_row(row) for row in ROWS))), PUT)

    def test_at_desks(self):
        one, other = Desk(), Desk()
        for row in ROWS:
            one.tell(shown_row(row))
            other.tell(shown_row(row))
        kept = copy.deepcopy((one.rows(), one.things(), one.rules(), one.found(9), one.judge(["q"])))
        texts = ["q"]
        for told in (one.rows(), one.things(), one.rules(), one.found(9), one.judge(texts), one.is_sure("q"), one.is_open("q")):
            for inner in lists_in(told):
                inner.clear()
        texts.clear()
        for desk in (one, other):
            self.assertEqual((desk.rows(), desk.things(), desk.rules(), desk.found(9), desk.judge(["q"])), kept)
        one.tell("rule more")
        one.drop(6)
        self.assertEqual((one.rows(), other.rows()), (kept[0], kept[0]))


class WholeNumbers(Case):
    def numbers_in(self, told):
        if isinstance(told, (list, tuple)):
            return [number for inner in told for number in self.numbers_in(inner)]
        return [told] if isinstance(told, int) else []

    def test_what_is_told_as_a_number_is_no_truth(self):
        desk = Desk()
        told = [desk.tell("choose 1 to 1 of 1 a, 0 b"), desk.tell("may c if least 1 of 1 a, 0 b")]
        rows = read("choose 1 to 1 of 1 a, 0 b\nmay c if least 1 of 1 a, 0 b\nnever most 0 of c")
        told += [rows, plain_of(rows), judged(PLAIN, [1]), judged(PLAIN, [0, 2]), judged(PLAIN, [0, 3]), levels(LAYERED), ring(PLAIN),
                 grown(LAYERED), worlds(PLAIN, 9)[0], wanted(PLAIN, 1), unwanted(PLAIN, 1), loose(PLAIN, SHEET), numbers([True, True]),
                 named_in(PLAIN[1][4]), built(PLAIN, [0, 2])]
        found = self.numbers_in(told)
        self.assertGreater(len(found), 80)
        self.assertEqual([number for number in found if type(number) is not int], [])

    def test_truths_are_truths(self):
        self.assertEqual([type(worlds(PLAIN, many)[1]) for many in (0, 1, 9)], [bool] * 3)
        self.assertEqual([type(Desk().found(many)[1]) for many in (0, 1)], [bool] * 2)


if __name__ == "__main__":
    unittest.main()
