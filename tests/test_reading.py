"""Rows read: their forms [34], what is told of them [35], texts of several rows [37], and [2]."""

import copy
import random
import re
import unittest

from standstill.errors import NoRow, StillError
from standstill.reading import read, read_row
from standstill.words import words_of
from rows import KEPT, row_words, some_row, thing
from ways import lists_in, share_a_list

A, B, C, D = thing("a"), thing("b"), thing("c"), thing("d")

# The forms of point 34 over words with one blank between, as one pattern each.
NAME = "(?!(?:" + "|".join(KEPT) + r")(?: |\Z))[a-z]{1,8}"
VARIABLE = "[A-Z][a-z]{0,7}"
NUMBER = "(?:0|-?[1-9][0-9]{0,29})"
WORTH = "(?:0|[1-9][0-9]{0,29})"
ARG = f"(?:{NAME}|{VARIABLE})"
THING = f"(?:{NAME}(?: \\( {ARG}(?: , {ARG}){{0,2}} \\))?)"
PAIR = f"(?:{VARIABLE} in {NAME})"
FOR = f"(?: for {PAIR}(?: , {PAIR}){{0,2}})?"
OVER = f"(?: over {PAIR}(?: , {PAIR})?)?"
ITEM = f"(?:(?:{WORTH} )?{THING})"
ITEMS = f"(?:{ITEM}(?: , {ITEM})*)"
UNLIKE = f"(?:{ARG} unlike {ARG})"
OTHER = f"(?:{THING}|not {THING}|(?:least|most) {NUMBER} of {ITEMS}{OVER})"
BODY = f"(?:(?:{UNLIKE}|{OTHER})(?: and (?:{UNLIKE}|{OTHER}))*)"
IF = f"(?: if {BODY})?"
ROW = re.compile("|".join((
    f"kind {NAME}(?: {NAME}){{1,12}}",
    f"(?:rule|may) {THING}{IF}{FOR}",
    f"choose {NUMBER} to {NUMBER} of {ITEMS}{OVER}{IF}{FOR}",
    f"never (?:{UNLIKE} and )*{OTHER}(?: and (?:{UNLIKE}|{OTHER}))*{FOR}",
)))


def has_a_form(words):
    return ROW.fullmatch(" ".join(words)) is not None


def without_ones(words):
    """The words without the worths of 1."""
    return [word for place, word in enumerate(words) if not (word == "1" and words[place - 1] in ("of", ","))]


def with_blanks(dice, words):
    """The words as a row, with blanks by chance, but at least one where there must be one."""
    line = " " * dice.randrange(3)
    for word, behind in zip(words, words[1:] + ["("]):
        least = 0 if word in "()," or behind in "()," else 1
        line += word + " " * dice.randrange(least, 4)
    return line


class Case(unittest.TestCase):
    def told(self, line, *row):
        self.assertEqual(read_row(line), row)
        self.assertIs(type(read_row(line)), tuple)

    def refused(self, *lines):
        for line in lines:
            with self.subTest(line=line):
                with self.assertRaises(NoRow):
                    read_row(line)


class Kinds(Case):
    def test_names(self):
        self.told("kind hue red", "kind", "hue", ["red"])
        self.told("kind hue red green blue", "kind", "hue", ["red", "green", "blue"])
        names = list("abcdefghijkl")
        self.told("kind hue " + " ".join(names), "kind", "hue", names)

    def test_names_are_not_looked_at(self):
        self.told("kind a a a", "kind", "a", ["a", "a"])

    def test_refused(self):
        self.refused("kind", "kind hue", "kind hue a b c d e f g h i j k l m", "kind hue Red", "kind Hue red",
                     "kind hue red, green", "kind hue red 1", "kind hue if", "kind if red", "kind hue red for X in a",
                     "kind hue(red)", "kind hue abcdefghi", "kind abcdefghi red", "kind hue red kind", "kind hue red (")


class RulesAndMays(Case):
    def test_all_left_out(self):
        for word in ("rule", "may"):
            self.told(word + " a", word, A, [], [])
            self.told(word + " a if b", word, A, [("is", B)], [])
            self.told(word + " a for X in k", word, A, [], [("X", "k")])
            self.told(word + " a if b for X in k", word, A, [("is", B)], [("X", "k")])

    def test_things(self):
        self.told("rule a(b)", "rule", thing("a", "b"), [], [])
        self.told("rule a(X)", "rule", thing("a", "X"), [], [])
        self.told("rule a(X,b)", "rule", thing("a", "X", "b"), [], [])
        self.told("rule a ( Xyz , b,Abcdefgh )", "rule", thing("a", "Xyz", "b", "Abcdefgh"), [], [])
        self.told("rule abcdefgh(abcdefgh,X,X)", "rule", thing("abcdefgh", "abcdefgh", "X", "X"), [], [])
        self.told("rule a(a)", "rule", thing("a", "a"), [], [])

    def test_things_refused(self):
        self.refused("rule a()", "rule a(b,c,d,e)", "rule a(b", "rule a(b,", "rule a(b,)", "rule a(,b)", "rule a(b c)",
                     "rule a)", "rule a(b))", "rule a(b)(c)", "rule (b)", "rule a(1)", "rule a(if)", "rule a(b(c))",
                     "rule A", "rule A(b)", "rule if", "rule 1", "rule 2 a", "rule a b", "rule a(", "rule a,b", "rule a(AB)",
                     "rule a(b;c)", "rule a'", "rule abcdefghi", "rule a(abcdefghi)", "rule a(Abcdefghi)")

    def test_pairs(self):
        self.told("may a for X in k, Y in m", "may", A, [], [("X", "k"), ("Y", "m")])
        self.told("may a for X in k,Y in m , Zz in k", "may", A, [], [("X", "k"), ("Y", "m"), ("Zz", "k")])
        self.told("may a for X in k, X in k", "may", A, [], [("X", "k"), ("X", "k")])

    def test_pairs_refused(self):
        self.refused("may a for", "may a for X", "may a for X in", "may a for X k", "may a for x in k", "may a for X in K",
                     "may a for X in k,", "may a for X in k Y in m", "may a for X in k, Y", "may a for X in k and Y in m",
                     "may a for W in a, X in b, Y in c, Z in d", "may a for X in k for Y in k", "may a for X in for",
                     "may a for X in k if b", "may a for in in k", "may a for X of k", "may a for X in 1", "may a for 1 in k",
                     "may a for X in k(b)", "may a over X in k", "may a for XY in k", "may a for , X in k")

    def test_refused(self):
        self.refused("rule", "may", "rule a if", "may a if", "rule a if b if c", "rule if b", "rule for X in k", "rule a and b",
                     "rule not a", "may not a", "rule a if for X in k", "rule a b", "rule a for X in k b", "rule may a",
                     "rule least 1 of a", "rule a unlike b")


class Bodies(Case):
    def body(self, text, *parts):
        self.told("rule a if " + text, "rule", A, list(parts), [])
        self.told("may a if " + text + " for X in k", "may", A, list(parts), [("X", "k")])
        self.told("choose 1 to 2 of a if " + text, "choose", 1, 2, [(A, 1)], [], list(parts), [])
        if any(part[0] != "unlike" for part in parts):
            self.told("never " + text, "never", list(parts), [])
            self.told("never " + text + " for X in k", "never", list(parts), [("X", "k")])

    def no_body(self, *texts):
        for text in texts:
            self.refused("rule a if " + text, "never " + text, "never b and " + text, "choose 1 to 2 of a if " + text,
                         "may a if " + text + " for X in k")

    def test_is_and_not(self):
        self.body("b", ("is", B))
        self.body("not b", ("not", B))
        self.body("b(X,c)", ("is", thing("b", "X", "c")))
        self.body("not b(X)", ("not", thing("b", "X")))

    def test_unlike(self):
        self.body("X unlike Y", ("unlike", "X", "Y"))
        self.body("X unlike b", ("unlike", "X", "b"))
        self.body("b unlike X", ("unlike", "b", "X"))
        self.body("b unlike b and c", ("unlike", "b", "b"), ("is", C))
        self.body("c and b unlike c", ("is", C), ("unlike", "b", "c"))

    def test_least_and_most(self):
        for word in ("least", "most"):
            self.body(word + " 2 of b", (word, 2, [(B, 1)], []))
            self.body(word + " 0 of 0 b, c", (word, 0, [(B, 0), (C, 1)], []))
            self.body(word + " -7 of 3 b(X) , 1 c,12 d", (word, -7, [(thing("b", "X"), 3), (C, 1), (D, 12)], []))
            self.body(word + " 1 of b over X in k", (word, 1, [(B, 1)], [("X", "k")]))
            self.body(word + " 1 of b, 2 c over X in k, Yy in m and d",
                      (word, 1, [(B, 1), (C, 2)], [("X", "k"), ("Yy", "m")]), ("is", D))
            self.body(f"{word} {'9' * 30} of {'9' * 30} b", (word, 10 ** 30 - 1, [(B, 10 ** 30 - 1)], []))
            self.body(f"{word} -{'9' * 30} of b", (word, 1 - 10 ** 30, [(B, 1)], []))

    def test_several(self):
        self.body("b and not c and X unlike d and least 1 of c, d and most 2 of b over Y in k and b",
                  ("is", B), ("not", C), ("unlike", "X", "d"), ("least", 1, [(C, 1), (D, 1)], []),
                  ("most", 2, [(B, 1)], [("Y", "k")]), ("is", B))
        self.body(" and ".join(["b"] * 40), *[("is", B)] * 40)
        self.body("least 1 of " + ",".join(["2 b"] * 402), ("least", 1, [(B, 2)] * 402, []))

    def test_refused(self):
        self.no_body("", "and", "b and", "and b", "b c", "b, c", "b and and c", "not", "not not b", "b not c", "not X", "X",
                     "X and b", "b(X", "2 b", "B", "if b", "b if c", "not b unlike c", "not least 1 of b", "b or c",
                     "rule b", "kind b c")
        self.no_body("unlike", "X unlike", "unlike X", "X unlike Y unlike Z", "X unlike 1", "1 unlike X", "b(X) unlike c",
                     "c unlike b(X)", "X unlike not Y", "X unlike if", "if unlike X", "X Y", "XY unlike Z", "X like Y")
        for word in ("least", "most"):
            self.no_body(*[word + behind for behind in (
                "", " 1", " 1 of", " of b", " b of b", " X of b", " 1 b", " 1 of 1", " 1 of b,", " 1 of , b", " 1 of b c",
                " 1 of b over", " 1 of b over X", " 1 of b over X in", " 1 of b over x in k", " 1 of b over X in K",
                " 1 of b over X in k,", " 1 of b over X in k, Y in k, Z in k", " 1 of b over X in k over Y in k",
                " 1 of b over X in k, c", " 1 of not b", " 1 of X", " 1 of X unlike Y", " 1 of -1 b", " 1 of b, -2 c",
                " 1 of -0 b", " 00 of b", " 01 of b", " -0 of b", " +1 of b", " - of b", " 1 of 01 b", " 1 of 2 3 b",
                " 1 of b and", " 1 to 2 of b", " 1 of b and over X in k", " 1 of " + "9" * 31 + " b", " " + "9" * 31 + " of b",
                " 1 of least 1 of b", " 1 in b", " 1 of b for", " 1 of b over X of k")])

    def test_pairs_behind_the_body_are_the_rows(self):
        self.told("rule a if least 1 of b over X in k for Y in m", "rule", A, [("least", 1, [(B, 1)], [("X", "k")])],
                  [("Y", "m")])
        self.refused("rule a if b over X in k", "rule a if least 1 of b and c over X in k", "never b over X in k")


class Chooses(Case):
    def test_all_left_out(self):
        self.told("choose 1 to 2 of a", "choose", 1, 2, [(A, 1)], [], [], [])

    def test_each_left_out_and_not(self):
        for over, over_told in (("", []), (" over X in k", [("X", "k")]), (" over X in k, Y in m", [("X", "k"), ("Y", "m")])):
            for cause, body in (("", []), (" if c", [("is", C)]), (" if c and not d", [("is", C), ("not", D)])):
                for ways, pairs in (("", []), (" for Z in k", [("Z", "k")])):
                    self.told("choose 0 to 3 of 2 a, b" + over + cause + ways,
                              "choose", 0, 3, [(A, 2), (B, 1)], over_told, body, pairs)

    def test_numbers(self):
        self.told("choose -3 to -5 of 0 a", "choose", -3, -5, [(A, 0)], [], [], [])
        self.told(f"choose -{'9' * 30} to {'9' * 30} of {'9' * 30} a", "choose", 1 - 10 ** 30, 10 ** 30 - 1,
                  [(A, 10 ** 30 - 1)], [], [], [])

    def test_refused(self):
        self.refused("choose", "choose 1", "choose 1 to", "choose 1 to 2", "choose 1 to 2 of", "choose 1 2 of a",
                     "choose 1 to 2 a", "choose to 2 of a", "choose 1 to of a", "choose X to 2 of a", "choose 1 to b of a",
                     "choose 1 to 2 of a,", "choose 1 to 2 of a b", "choose 1 to 2 of -1 a", "choose 1 to 2 of a over",
                     "choose 1 to 2 of a over X in k, Y in k, Z in k", "choose 1 to 2 of a if", "choose 1 to 2 of a for",
                     "choose 1 to 2 of a if b over X in k", "choose 1 to 2 of a for X in k if b",
                     "choose 1 to 2 of a for X in k over X in k", "choose 1 to 2 of not a", "choose 1 to 2 of A",
                     "choose 01 to 2 of a", "choose 1 to -0 of a", "choose 1 of a", "choose a",
                     "choose 1 to 2 of a for W in a, X in b, Y in c, Z in d", "choose 1 to 2 of a and b",
                     "choose " + "9" * 31 + " to 2 of a", "choose 1 to " + "9" * 31 + " of a")


class Nevers(Case):
    def test_forms(self):
        self.told("never a", "never", [("is", A)], [])
        self.told("never not a for X in k, Y in k, Z in k", "never", [("not", A)], [("X", "k"), ("Y", "k"), ("Z", "k")])
        self.told("never most 1 of a", "never", [("most", 1, [(A, 1)], [])], [])

    def test_the_documents_own(self):
        self.told("never col(N,H) and col(M,H) and N unlike M for N in node, M in node, H in hue", "never",
                  [("is", thing("col", "N", "H")), ("is", thing("col", "M", "H")), ("unlike", "N", "M")],
                  [("N", "node"), ("M", "node"), ("H", "hue")])

    def test_unlike_alone(self):
        self.refused("never X unlike Y", "never a unlike b", "never X unlike Y and Y unlike Z",
                     "never X unlike Y for X in k, Y in k", "never a unlike b and b unlike c and c unlike a")
        self.told("never X unlike Y and a", "never", [("unlike", "X", "Y"), ("is", A)], [])
        self.told("never a and X unlike Y", "never", [("is", A), ("unlike", "X", "Y")], [])
        self.told("never X unlike Y and least 1 of a", "never", [("unlike", "X", "Y"), ("least", 1, [(A, 1)], [])], [])
        self.told("rule a if X unlike Y", "rule", A, [("unlike", "X", "Y")], [])

    def test_refused(self):
        self.refused("never", "never for X in k", "never if a", "never a if b", "never a for", "never a b", "never a,b",
                     "never a for X in k, Y in k, Z in k, W in k", "never never a")


class NoForm(Case):
    def test_other_beginnings(self):
        self.refused("", " ", "a", "X", "1", "(", ",", "if a", "and", "not a", "least 1 of a", "unlike", "in", "over X in k",
                     "for X in k", "Rule a", "RULE a", "rules a", "rul a", "rule\ta", "kind\n", "a rule b", "mays a", ") rule a")

    def test_signs(self):
        self.refused("rule a\n", "\nrule a", "rule a\t", "rule\na", "rule a.", "rule a;", "# rule a", "rule a if b\nrule c",
                     "rule a\r", "rule a if b and\tc", "rule a # b", "rule \u00e4", "rule a(\u00c4)",
                     "choose \u0661 to 2 of a", "rule a\u00a0if b")

    def test_it_is_a_refusal_and_a_wrong_value(self):
        with self.assertRaises(StillError):
            read_row("")
        with self.assertRaises(ValueError):
            read("rule")

    def test_argument_names(self):
        self.assertEqual(read_row(line="rule a"), ("rule", A, [], []))
        self.assertEqual(read(text="rule a"), [("rule", A, [], [])])


class ByChance(Case):
    def rows(self, seed, times):
        dice = random.Random(seed)
        return dice, [some_row(dice) for count in range(times)]

    def test_rows_of_all_forms(self):
        dice, rows = self.rows(81, 600)
        self.assertEqual({row[0] for row in rows}, {"kind", "rule", "may", "choose", "never"})
        for row in rows:
            words = row_words(row)
            self.assertTrue(has_a_form(words), words)
            self.assertEqual(read_row(" ".join(words)), row)
            line = with_blanks(dice, words)
            self.assertEqual(words_of(line), words)
            self.assertEqual(read_row(line), row)

    def held_against_the_forms(self, words):
        """Whether the words have a form, after the row was read or refused accordingly."""
        line = " ".join(words)
        if has_a_form(words):
            self.assertEqual(row_words(read_row(line)), without_ones(words))
            return True
        self.refused(line)
        return False

    def test_a_word_less_at_each_place(self):
        dice, rows = self.rows(82, 150)
        for row in rows:
            words = row_words(row)
            for place in range(len(words)):
                self.held_against_the_forms(words[:place])
                self.held_against_the_forms(words[:place] + words[place + 1:])

    def test_another_word_or_one_more(self):
        dice, rows = self.rows(83, 250)
        vocabulary = KEPT + ["(", ")", ",", ",", "and", "X", "Y", "a", "b", "1", "0", "-1", "-0", "abcdefghi", "AB", ".", "+1"]
        seen = {True: 0, False: 0}
        for row in rows:
            words = row_words(row)
            for place in range(len(words) + 1):
                word = dice.choice(vocabulary)
                seen[self.held_against_the_forms(words[:place] + [word] + words[place:])] += 1
                seen[self.held_against_the_forms(words[:place] + [dice.choice(vocabulary)] + words[place + 1:])] += 1
        self.assertGreater(min(seen.values()), 300)

    def test_short_rows_of_all_words(self):
        vocabulary = ["a", "X", "2", ",", "of", "unlike", "and", "not", "least", "for", "in", "if"]
        dice = random.Random(84)
        seen = {True: 0, False: 0}
        for count in range(8000):
            first = dice.choice((["rule", "a", "if"], ["never"], ["never", "a", "and"], ["may", "a", "("], ["kind"]))
            words = first + [dice.choice(vocabulary) for more in range(dice.randrange(1, 6))]
            seen[self.held_against_the_forms(words)] += 1
        self.assertGreater(min(seen.values()), 50)


class Texts(Case):
    def test_several_rows(self):
        self.assertEqual(read("kind k b\nrule a\nmay b"), [("kind", "k", ["b"]), ("rule", A, [], []), ("may", B, [], [])])
        self.assertEqual(read("rule a\nrule a"), [("rule", A, [], [])] * 2)
        self.assertIs(type(read("rule a")), list)

    def test_a_last_line_feed(self):
        self.assertEqual(read("rule a"), [("rule", A, [], [])])
        self.assertEqual(read("rule a\n"), [("rule", A, [], [])])
        self.assertEqual(read("rule a\n\n"), [("rule", A, [], [])])

    def test_rows_without_words(self):
        self.assertEqual(read("\n\n rule a \n   \n\nmay b\n "), [("rule", A, [], []), ("may", B, [], [])])

    def test_no_row(self):
        for text in ("", "\n", "\n\n\n", "   ", "  \n \n"):
            self.assertEqual(read(text), [])

    def test_one_row_that_has_no_form(self):
        for text in ("rule", "rule a\nrule\nrule b", "rule a\nb", "a\nrule a", "rule a\n.\n", "rule a\n\t\nrule b",
                     "rule a rule b", "rule a\nif b", "rule a\n(\n", "\t"):
            with self.subTest(text=text):
                with self.assertRaises(NoRow):
                    read(text)

    def test_line_feeds_alone_part_rows(self):
        for sign in ("\t", "\r", "\v", "\f", "\x1c", "\x85", "\u2028"):
            with self.assertRaises(NoRow):
                read("rule a" + sign + "rule b")
        with self.assertRaises(NoRow):
            read("rule a\r\nrule b")

    def test_the_rows_in_their_order(self):
        dice = random.Random(85)
        rows = [some_row(dice) for count in range(60)]
        self.assertEqual(read("\n".join(" ".join(row_words(row)) for row in rows)), rows)
        self.assertEqual(read("\n".join(with_blanks(dice, row_words(row)) for row in rows)), rows)


class Told(Case):
    line = "choose 1 to 2 of a(X), b over X in k, Y in k if c(Y) and least 1 of d(Y) over Z in k for V in k, W in k"

    def test_kinds(self):
        dice = random.Random(86)
        for count in range(100):
            row = some_row(dice)
            self.same_kinds(read_row(" ".join(row_words(row))), row)

    def same_kinds(self, one, other):
        self.assertIs(type(one), type(other))
        if isinstance(one, (list, tuple)):
            for inner, beside in zip(one, other, strict=True):
                self.same_kinds(inner, beside)

    def test_told_lists_are_new(self):
        for line in (self.line, "rule a", "kind k b", "never a(X,X) for X in k", "may a(b)", "choose 1 to 1 of a"):
            first, second = read_row(line), read_row(line)
            self.assertEqual(first, second)
            self.assertFalse(share_a_list(first, second))
            kept = copy.deepcopy(first)
            for one in lists_in(first):
                one.append("more")
            self.assertEqual(second, kept)
            self.assertEqual(read_row(line), kept)

    def test_told_rows_are_new(self):
        text = self.line + "\nrule a\nrule a\n"
        first, second = read(text), read(text)
        self.assertFalse(share_a_list(first, second))
        kept = copy.deepcopy(second)
        for one in lists_in(first):
            one.clear()
        self.assertEqual(second, kept)
        self.assertEqual(read(text), kept)
        read("").append("more")
        self.assertEqual(read(""), [])


if __name__ == "__main__":
    unittest.main()
