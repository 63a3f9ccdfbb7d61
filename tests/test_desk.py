"""A desk: rows told and dropped [43], all that is asked of it [44], and [2]."""

import copy
import random
import unittest

from standstill.asks import in_all, in_some, unwanted, wanted
from standstill.desk import Desk
from standstill.errors import BadName, NoRow, NoThing, StillError, Wide
from standstill.papers import right_paper
from standstill.putting import plain_of
from standstill.reading import read
from rows import Maker, glued, made_up_rows, names_are_right, put_by_the_words, row_words
from ways import all_sets, in_order, judged_by_the_words, lists_in, paper_is_right, share_a_list, stands

# One of two lamps is lit, never both; the dog sleeps where no lamp is lit, and barks where the dog barks.
LAMPS = ("kind lamp red blue", "choose 1 to 1 of lit(L) over L in lamp", "rule seen(L) if lit(L) for L in lamp",
         "rule barks if barks", "rule dark if most 0 of lit(L) over L in lamp", "rule home")


def desk_of(lines):
    desk = Desk()
    for line in lines:
        desk.tell(line)
    return desk


def told_by(desk):
    """All that a desk tells of itself without being handed a text."""
    return (desk.rows(), desk.things(), desk.rules(), desk.found(), desk.found(100))


ASKS = (
    lambda desk: desk.things(),
    lambda desk: desk.rules(),
    lambda desk: desk.found(),
    lambda desk: desk.found(0),
    lambda desk: desk.judge([]),
    lambda desk: desk.judge(["p"]),
    lambda desk: desk.judge(["none"]),
    lambda desk: desk.is_sure("p"),
    lambda desk: desk.is_sure("none"),
    lambda desk: desk.is_open("p"),
    lambda desk: desk.is_open("none"),
)


class Case(unittest.TestCase):
    def refuses(self, refusal, desk, ask):
        """Looks whether the desk refuses what is asked, and is as it was behind it."""
        before = desk.rows()
        with self.assertRaises(refusal):
            ask(desk)
        self.assertEqual(desk.rows(), before)

    def refuses_line(self, refusal, desk, *lines):
        for line in lines:
            with self.subTest(line=line):
                self.refuses(refusal, desk, lambda asked: asked.tell(line))


class Telling(Case):
    def test_none_at_first(self):
        self.assertEqual(Desk().rows(), [])

    def test_numbers(self):
        desk = Desk()
        self.assertEqual([desk.tell(line) for line in LAMPS], [0, 1, 2, 3, 4, 5])
        self.assertEqual(desk.rows(), list(LAMPS))
        self.assertIs(type(desk.tell("rule p")), int)

    def test_rows_as_shown(self):
        desk = desk_of((" kind  k a   b", "rule p( X,Y ,a)if c unlike b for X in k ,Y in k",
                        "never least 2 of 1 p,2 q(X)over X in k"))
        self.assertEqual(desk.rows(), ["kind k a b", "rule p(X,Y,a) if c unlike b for X in k, Y in k",
                                       "never least 2 of p, 2 q(X) over X in k"])

    def test_no_row(self):
        for desk in (Desk(), desk_of(LAMPS)):
            self.refuses_line(NoRow, desk, "", " ", "rule", "p", "rule p\nrule q", "rule p\n", "rule p if", "Rule p",
                              "never X unlike Y", "rule\tp", "choose 1 to 1 of -1 p", "rule p(X) and")

    def test_bad_names(self):
        desk = desk_of(("kind k a b", "rule p(X) for X in k"))
        self.refuses_line(BadName, desk, "kind k a", "kind m a a", "rule p(X)", "rule p for X in m", "rule p for X in k, X in k",
                          "never p(Y) for X in k", "choose 1 to 1 of p(X) over X in k if p(X)", "never p and X unlike a",
                          "never least 1 of p over X in k for X in k")
        self.assertEqual(desk.tell("kind m a"), 2)
        self.assertEqual(desk.tell("rule p for X in m"), 3)

    def test_no_row_goes_ahead_of_bad_names(self):
        self.refuses_line(NoRow, Desk(), "rule p(X) if", "rule p for X in none, x", "kind k a a 1")

    def test_the_same_row_twice(self):
        desk = desk_of(("rule p", "rule p"))
        self.assertEqual(desk.rows(), ["rule p", "rule p"])
        self.assertEqual(desk.rules(), ["rule p", "rule p"])

    def test_what_is_refused_changes_nothing(self):
        desk = desk_of(LAMPS)
        before = told_by(desk)
        for line in ("rule", "kind lamp x", "rule p(X)", "kind m a a", "rule p for X in m"):
            with self.assertRaises(StillError):
                desk.tell(line)
            self.assertEqual(told_by(desk), before)
        self.assertEqual(desk.tell("rule p"), 6)

    def test_wide_rows_are_kept(self):
        desk = desk_of(["rule p"] * 401)
        self.assertEqual(len(desk.rows()), 401)
        self.assertEqual(desk.tell("kind k a"), 401)


class Dropping(Case):
    def test_the_others_move_up(self):
        desk = desk_of(("rule a", "rule b", "rule c", "rule d"))
        self.assertIs(desk.drop(1), None)
        self.assertEqual(desk.rows(), ["rule a", "rule c", "rule d"])
        self.assertIs(desk.drop(2), None)
        self.assertEqual(desk.rows(), ["rule a", "rule c"])
        self.assertIs(desk.drop(0), None)
        self.assertEqual(desk.rows(), ["rule c"])
        self.assertEqual(desk.tell("rule e"), 1)
        desk.drop(0)
        desk.drop(0)
        self.assertEqual(desk.rows(), [])
        self.assertEqual(desk.tell("rule f"), 0)

    def test_no_such_number(self):
        self.refuses(NoRow, Desk(), lambda desk: desk.drop(0))
        for number in (-1, -2, -3, -6, -7, -10 ** 299, 6, 7, 10 ** 299):
            self.refuses(NoRow, desk_of(LAMPS), lambda desk: desk.drop(number))

    def test_a_kind_that_others_need(self):
        desk = desk_of(LAMPS)
        self.refuses(BadName, desk, lambda asked: asked.drop(0))
        before = told_by(desk)
        with self.assertRaises(BadName):
            desk.drop(0)
        self.assertEqual(told_by(desk), before)
        for number in (4, 2, 1):
            desk.drop(number)
        self.assertEqual(desk.rows(), ["kind lamp red blue", "rule barks if barks", "rule home"])
        desk.drop(0)
        self.assertEqual(desk.rows(), ["rule barks if barks", "rule home"])

    def test_a_kind_that_no_other_needs(self):
        desk = desk_of(("kind k a", "kind m b", "rule p(X) for X in m"))
        desk.drop(0)
        self.assertEqual(desk.rows(), ["kind m b", "rule p(X) for X in m"])
        self.refuses(BadName, desk, lambda asked: asked.drop(0))
        self.assertEqual(desk.tell("kind k b"), 2)

    def test_a_kind_dropped_is_told_again(self):
        desk = desk_of(("kind k a", "rule p"))
        desk.drop(0)
        self.assertEqual(desk.tell("kind k b c"), 1)
        self.assertEqual(desk.tell("rule q(X) for X in k"), 2)
        self.assertEqual(desk.things(), ["p", "q(b)", "q(c)"])

    def test_by_chance(self):
        dice = random.Random(121)
        maker = Maker(dice, faults=True)
        seen = {"told": 0, "kept off": 0, "dropped": 0, "kept on": 0, "no row": 0}
        for count in range(60):
            desk = Desk()
            kept = []
            for more in range(25):
                if dice.randrange(3):
                    row = dice.choice((maker.row(), ("kind", dice.choice("km"), dice.sample("abc", 2))))
                    case = self.tell_one(desk, kept, row)
                else:
                    case = self.drop_one(desk, kept, dice.randrange(-2, len(kept) + 2))
                seen[case] += 1
                self.assertEqual(desk.rows(), [glued(row_words(row)) for row in kept])
        self.assertGreater(min(seen.values()), 20)

    def tell_one(self, desk, kept, row):
        line = glued(row_words(row))
        if names_are_right(kept + [row]):
            self.assertEqual(desk.tell(line), len(kept))
            kept.append(row)
            return "told"
        self.refuses(BadName, desk, lambda asked: asked.tell(line))
        return "kept off"

    def drop_one(self, desk, kept, number):
        if number not in range(len(kept)):
            self.refuses(NoRow, desk, lambda asked: asked.drop(number))
            return "no row"
        if names_are_right(kept[:number] + kept[number + 1:]):
            self.assertIs(desk.drop(number), None)
            kept.pop(number)
            return "dropped"
        self.refuses(BadName, desk, lambda asked: asked.drop(number))
        return "kept on"


class TwoDesks(Case):
    def test_beside_each_other(self):
        one, other = Desk(), Desk()
        one.tell("kind k a")
        self.assertEqual(other.rows(), [])
        self.refuses_line(BadName, other, "rule p(X) for X in k")
        self.assertEqual(other.tell("kind k b c"), 0)
        self.assertEqual(one.tell("rule p(X) for X in k"), 1)
        self.assertEqual(other.tell("may q(X) for X in k"), 1)
        self.assertEqual((one.things(), other.things()), (["p(a)"], ["q(b)", "q(c)"]))
        other.drop(1)
        self.assertEqual((one.rows(), other.rows()), (["kind k a", "rule p(X) for X in k"], ["kind k b c"]))
        self.assertEqual(one.found(5)[:2], ([["p(a)"]], True))
        self.assertEqual(other.found(5)[:2], ([[]], True))


class Asked(Case):
    def test_of_no_rows(self):
        for desk in (Desk(), desk_of(("kind k a",)), desk_of(("rule p if a unlike a",))):
            self.assertEqual((desk.things(), desk.rules()), ([], []))
            for most in (1, 2, 100):
                found, whole, paper = desk.found(most)
                self.assertEqual((found, whole), ([[]], True))
                self.assertTrue(right_paper((0, []), [[]], paper))
            self.assertEqual(desk.found(0), ([], False, []))
            self.assertEqual(desk.judge([]), ("stands", []))
            for ask in ASKS[5:]:
                self.refuses(NoThing, desk, ask)

    def test_things_and_rules(self):
        desk = desk_of(LAMPS)
        self.assertEqual(desk.things(), ["lit(red)", "lit(blue)", "seen(red)", "seen(blue)", "barks", "dark", "home"])
        self.assertEqual(desk.rules(), [
            "may lit(red)", "may lit(blue)", "never most 0 of lit(red), lit(blue)", "never least 2 of lit(red), lit(blue)",
            "rule seen(red) if lit(red)", "rule seen(blue) if lit(blue)", "rule barks if barks",
            "rule dark if most 0 of lit(red), lit(blue)", "rule home"])

    def test_worlds(self):
        desk = desk_of(LAMPS)
        first, second = ["lit(red)", "seen(red)", "home"], ["lit(blue)", "seen(blue)", "home"]
        self.assertEqual(desk.found(), ([first], False, []))
        self.assertEqual(desk.found(1), ([first], False, []))
        self.assertEqual(desk.found(0), ([], False, []))
        for most in (2, 3, 10 ** 30):
            found, whole, paper = desk.found(most)
            self.assertEqual((found, whole), ([first, second], True))
            self.assertTrue(paper_is_right(plain_of(read("\n".join(LAMPS)))[1], [[0, 2, 6], [1, 3, 6]], paper))

    def test_worlds_in_the_tables_order(self):
        desk = desk_of(("rule z if a", "rule a"))
        self.assertEqual(desk.found()[0], [["z", "a"]])
        desk = desk_of(("never z and a", "may a", "may z"))
        self.assertEqual(desk.found(9)[0], [["z"], ["a"], []])

    def test_no_world(self):
        found, whole, paper = desk_of(LAMPS + ("never home",)).found()
        self.assertEqual((found, whole), ([], True))
        self.assertTrue(right_paper(plain_of(read("\n".join(LAMPS + ("never home",))))[1], [], paper))
        self.assertIs(desk_of(("never p", "rule p")).found(0)[1], True)

    def test_judged(self):
        desk = desk_of(LAMPS)
        self.assertEqual(desk.judge([]), ("broken", "never most 0 of lit(red), lit(blue)"))
        self.assertEqual(desk.judge(["lit(red)"]), ("broken", "rule seen(red) if lit(red)"))
        self.assertEqual(desk.judge(["home", "dark", "barks"]), ("broken", "never most 0 of lit(red), lit(blue)"))
        self.assertEqual(desk.judge(["lit(blue)", "lit(red)"]), ("broken", "never least 2 of lit(red), lit(blue)"))
        self.assertEqual(desk.judge(["home", "barks", "seen(red)", "lit(red)", "seen(blue)"]),
                         ("group", ["seen(blue)", "barks"]))
        self.assertEqual(desk.judge(["lit(red)", "seen(red)", "home"]),
                         ("stands", [("lit(red)", "may lit(red)"), ("seen(red)", "rule seen(red) if lit(red)"), ("home", "rule home")]))

    def test_judged_in_any_order_and_some_twice(self):
        desk = desk_of(LAMPS)
        stood = desk.judge(["lit(red)", "seen(red)", "home"])
        self.assertEqual(desk.judge(["home", "seen(red)", "lit(red)"]), stood)
        self.assertEqual(desk.judge(["seen(red)", "home", "home", "lit(red)", "seen(red)", "home"]), stood)
        grouped = ("group", ["seen(blue)", "barks"])
        self.assertEqual(desk.judge(["barks", "seen(blue)", "barks", "home", "seen(red)", "lit(red)"]), grouped)

    def test_the_chain(self):
        desk = desk_of(("rule a if b and not c", "rule b if d", "may d", "may a if d"))
        self.assertEqual(desk.things(), ["a", "b", "c", "d"])
        self.assertEqual(desk.judge(["a", "b", "d"]), ("stands", [("d", "may d"), ("a", "may a if d"), ("b", "rule b if d")]))

    def test_in_all_worlds(self):
        desk = desk_of(LAMPS)
        plain = plain_of(read("\n".join(LAMPS)))[1]
        word, paper = desk.is_sure("home")
        self.assertEqual(word, "yes")
        self.assertTrue(paper_is_right(unwanted(plain, 6), [], paper))
        self.assertEqual(desk.is_sure("lit(red)"), ("no", ["lit(blue)", "seen(blue)", "home"]))
        self.assertEqual(desk.is_sure("lit(blue)"), ("no", ["lit(red)", "seen(red)", "home"]))
        self.assertEqual(desk.is_sure("barks"), ("no", ["lit(red)", "seen(red)", "home"]))

    def test_in_some_world(self):
        desk = desk_of(LAMPS)
        plain = plain_of(read("\n".join(LAMPS)))[1]
        for text, number in (("barks", 4), ("dark", 5)):
            word, paper = desk.is_open(text)
            self.assertEqual(word, "no")
            self.assertTrue(paper_is_right(wanted(plain, number), [], paper))
        self.assertEqual(desk.is_open("lit(blue)"), ("yes", ["lit(blue)", "seen(blue)", "home"]))
        self.assertEqual(desk.is_open("home"), ("yes", ["lit(red)", "seen(red)", "home"]))

    def test_where_there_is_no_world(self):
        desk = desk_of(("rule p if not p", "may q"))
        for text in ("p", "q"):
            self.assertEqual((desk.is_sure(text)[0], desk.is_open(text)[0]), ("yes", "no"))

    def test_argument_names(self):
        desk = Desk()
        self.assertEqual(desk.tell(line="rule p"), 0)
        self.assertEqual(desk.found(most=2)[:2], ([["p"]], True))
        self.assertEqual(desk.judge(texts=["p"])[0], "stands")
        self.assertEqual(desk.is_sure(text="p")[0], "yes")
        self.assertEqual(desk.is_open(text="p"), ("yes", ["p"]))
        self.assertIs(desk.drop(number=0), None)

    def test_kinds(self):
        desk = desk_of(LAMPS)
        for told in (desk.rows(), desk.things(), desk.rules()):
            self.assertIs(type(told), list)
            self.assertTrue(all(type(one) is str for one in told))
        for told in (desk.found(), desk.judge([]), desk.is_sure("home"), desk.is_open("home")):
            self.assertIs(type(told), tuple)
        self.assertEqual([type(part) for part in desk.found(5)], [list, bool, list])
        self.assertTrue(all(type(link) is tuple for link in desk.judge(["lit(red)", "seen(red)", "home"])[1]))


class BehindTellsAndDrops(Case):
    def test_of_the_rows_as_they_stand(self):
        desk = desk_of(("may p",))
        self.assertEqual(desk.found(9)[0], [["p"], []])
        self.assertEqual(desk.is_sure("p"), ("no", []))
        desk.tell("never not p")
        self.assertEqual(desk.found(9)[0], [["p"]])
        self.assertEqual(desk.is_sure("p")[0], "yes")
        self.assertEqual(desk.judge([]), ("broken", "never not p"))
        self.refuses(NoThing, desk, lambda asked: asked.judge(["q"]))
        desk.tell("rule q if not p")
        self.assertEqual((desk.things(), desk.found(9)[0]), (["p", "q"], [["p"]]))
        self.assertEqual(desk.judge(["q", "p"]), ("group", ["q"]))
        desk.drop(0)
        self.assertEqual(desk.things(), ["p", "q"])
        self.assertEqual(desk.found(9)[:2], ([], True))
        desk.drop(0)
        self.assertEqual((desk.things(), desk.rules()), (["q", "p"], ["rule q if not p"]))
        self.assertEqual(desk.found(9)[0], [["q"]])
        self.assertEqual(desk.judge(["q"]), ("stands", [("q", "rule q if not p")]))
        self.assertEqual(desk.is_open("p")[0], "no")
        desk.drop(0)
        self.refuses(NoThing, desk, lambda asked: asked.is_open("p"))
        self.assertEqual(desk.found(9)[0], [[]])


class TooWide(Case):
    wide = (
        ["rule p"] * 401,
        [f"never least 1 of {', '.join(['p'] * 61)}"],
        [f"choose 1 to 1 of {', '.join(['p'] * 61)}"],
        ["kind k a b c d e f g h", "may p", "rule q(X,Y) for X in k, Y in k"],
    )

    def test_each_asking(self):
        for lines in self.wide:
            desk = desk_of(lines)
            for ask in ASKS:
                self.refuses(Wide, desk, ask)
            self.assertEqual(len(desk.rows()), len(lines))

    def test_narrow_again(self):
        desk = desk_of(["rule p"] * 401)
        self.refuses(Wide, desk, lambda asked: asked.judge(["none"]))
        desk.drop(400)
        self.assertEqual(desk.things(), ["p"])
        self.assertEqual(desk.judge(["p"]), ("stands", [("p", "rule p")]))
        self.refuses(NoThing, desk, lambda asked: asked.judge(["none"]))
        desk.tell("rule q")
        self.refuses(Wide, desk, lambda asked: asked.things())

    def test_the_widest(self):
        desk = desk_of(["kind k a b c d e f g h i j", "kind m a b c d e f", "choose 60 to 60 of p(X,Y) over X in k, Y in m"]
                       + ["may p(a,a)"] * 338)
        self.assertEqual((len(desk.things()), len(desk.rules())), (60, 400))
        found, whole, paper = desk.found(2)
        self.assertEqual((found, whole), ([desk.things()], True))
        self.assertEqual(desk.is_sure("p(j,f)")[0], "yes")
        self.assertEqual(desk.is_open("p(j,f)"), ("yes", desk.things()))


class NoSuchThing(Case):
    def test_unknown_texts(self):
        desk = desk_of(LAMPS)
        for text in ("none", "", "lit", "lit(green)", "lit( red )", "lit(red) ", "lit(L)", "Home", "red", "rule home", "lamp"):
            for ask in (lambda asked: asked.is_sure(text), lambda asked: asked.is_open(text),
                        lambda asked: asked.judge([text]), lambda asked: asked.judge(["home", text]),
                        lambda asked: asked.judge([text, "home", "home"])):
                self.refuses(NoThing, desk, ask)

    def test_things_of_the_body_alone_are_known(self):
        desk = desk_of(("never p and least 1 of 0 q",))
        self.assertEqual(desk.judge(["q"]), ("group", ["q"]))
        self.assertEqual(desk.is_open("p")[0], "no")

    def test_the_refusals_are_unlike(self):
        desk = desk_of(("rule p",))
        wide = desk_of(["rule p"] * 401)
        for refusal, ask in ((NoRow, lambda: desk.tell("")), (NoRow, lambda: desk.drop(1)), (BadName, lambda: desk.tell("rule p(X)")),
                             (Wide, wide.things), (NoThing, lambda: desk.is_sure("q"))):
            for taken in (refusal, StillError, ValueError):
                with self.assertRaises(taken):
                    ask()
            others = tuple(other for other in (NoRow, BadName, Wide, NoThing) if other is not refusal)
            try:
                ask()
            except others:
                self.fail("taken as another one")
            except refusal:
                pass


class ByChance(Case):
    def test_beside_all_sets(self):
        for rows in made_up_rows(122, 120, most=5):
            desk = desk_of([glued(row_words(row)) for row in rows])
            table, plain = put_by_the_words(rows)
            self.assertEqual(desk.things(), table)
            every = in_order([some for some in all_sets(plain[0]) if stands(plain, some)])
            texts = [[table[thing] for thing in some] for some in every]
            found, whole, paper = desk.found(100)
            self.assertEqual((found, whole), (texts, True))
            self.assertTrue(paper_is_right(plain, every, paper))
            if len(every) > 1:
                self.assertEqual(desk.found(len(every) - 1), (texts[:-1], False, []))
            for thing, text in enumerate(table):
                self.asked_of_all(desk, plain, texts, thing, text)

    def asked_of_all(self, desk, plain, texts, thing, text):
        lacking = [world for world in texts if text not in world]
        having = [world for world in texts if text in world]
        told = desk.is_sure(text)
        if lacking:
            self.assertEqual(told, ("no", lacking[0]))
        else:
            self.assertEqual(told, in_all(plain, thing))
            self.assertTrue(paper_is_right(unwanted(plain, thing), [], told[1]))
        told = desk.is_open(text)
        if having:
            self.assertEqual(told, ("yes", having[0]))
        else:
            self.assertEqual(told, in_some(plain, thing))
            self.assertTrue(paper_is_right(wanted(plain, thing), [], told[1]))

    def test_all_sets_judged(self):
        dice = random.Random(123)
        seen = {"broken": 0, "group": 0, "stands": 0}
        for rows in made_up_rows(124, 80, most=4):
            desk = desk_of([glued(row_words(row)) for row in rows])
            table, plain = put_by_the_words(rows)
            shown = desk.rules()
            for some in all_sets(plain[0]):
                texts = [table[thing] for thing in some]
                mixed = dice.sample(texts, len(texts)) + dice.choices(texts, k=2 if texts else 0)
                word, told = judged_by_the_words(plain, some)
                seen[word] += 1
                if word == "broken":
                    told = shown[told]
                elif word == "group":
                    told = [table[thing] for thing in told]
                else:
                    told = [(table[thing], shown[number]) for thing, number in told]
                self.assertEqual(desk.judge(mixed), (word, told))
        self.assertGreater(min(seen.values()), 50)


class HandedInAndTold(Case):
    asks = (lambda desk: desk.rows(), lambda desk: desk.things(), lambda desk: desk.rules(), lambda desk: desk.found(),
            lambda desk: desk.found(9), lambda desk: desk.judge([]), lambda desk: desk.judge(["lit(red)", "seen(red)", "home"]),
            lambda desk: desk.judge(["lit(red)", "seen(red)", "home", "barks"]), lambda desk: desk.is_sure("home"),
            lambda desk: desk.is_sure("barks"), lambda desk: desk.is_open("home"), lambda desk: desk.is_open("barks"))

    def test_what_is_handed_in_stays(self):
        desk = desk_of(LAMPS)
        for texts in ([], ["home"], ["home", "lit(red)", "home", "seen(red)"], ["home", "none"]):
            kept = list(texts)
            try:
                desk.judge(texts)
            except NoThing:
                pass
            self.assertEqual(texts, kept)

    def test_told_lists_are_new(self):
        desk, other = desk_of(LAMPS), desk_of(LAMPS)
        for ask in self.asks:
            self.assertEqual(ask(desk), ask(other))
            self.assertFalse(share_a_list(ask(desk), ask(desk), ask(other)))

    def test_changed_lists_change_nothing(self):
        desk, other = desk_of(LAMPS), desk_of(LAMPS)
        kept = [copy.deepcopy(ask(desk)) for ask in self.asks]
        for ask in self.asks:
            for change in (lambda one: one.append("more"), lambda one: one.clear()):
                for one in lists_in(ask(desk)):
                    change(one)
            self.assertEqual([again(desk) for again in self.asks], kept)
            self.assertEqual([again(other) for again in self.asks], kept)
            self.assertEqual([again(desk_of(LAMPS)) for again in self.asks], kept)

    def test_what_was_told_stays(self):
        desk = desk_of(LAMPS)
        told = [ask(desk) for ask in self.asks]
        kept = copy.deepcopy(told)
        texts = ["home"]
        judged = desk.judge(texts)
        texts.append("barks")
        desk.tell("rule more")
        desk.drop(5)
        desk.found(9)
        self.assertEqual(told, kept)
        self.assertEqual(judged, ("broken", "never most 0 of lit(red), lit(blue)"))


if __name__ == "__main__":
    unittest.main()
