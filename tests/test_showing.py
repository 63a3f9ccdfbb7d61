"""Rows shown [36], plain rules shown [42], and [2]."""

import copy
import random
import unittest

from standstill.putting import plain_of
from standstill.reading import read, read_row
from standstill.showing import shown_row, shown_rule
from rows import glued, made_up_rows, row_words, some_row, text_of_rows, thing

A, B = thing("a"), thing("b")
NINES = "9" * 30

# Rows as they are shown.
SHOWN = (
    "kind hue red",
    "kind hue red green blue",
    "kind k a b c d e f g h i j l m",
    "rule a",
    "rule a if b",
    "rule a for X in k",
    "rule a if b for X in k",
    "rule a(b)",
    "rule a(X,b)",
    "rule a(X,b,Yy) if c(X) and not d(Yy,X) for X in k, Yy in m, Z in k",
    "may a",
    "may a if not b",
    "may a(X) for X in k",
    "may a if b and c and d",
    "never a",
    "never not a(b,c)",
    "never a for X in k, Y in k, Z in k",
    "never col(N,H) and col(M,H) and N unlike M for N in node, M in node, H in hue",
    "never X unlike a and b and a unlike b",
    "never least 2 of a",
    "never least 0 of 0 a, b, 2 c(X,d,Y)",
    "never least -3 of a over X in k",
    "never most 2 of a(X,Y), 3 b over X in k, Y in m",
    "rule a if least 1 of b, c over X in k and most 1 of b(Y), c over Y in m and d for Z in k",
    "choose 1 to 2 of a",
    "choose 0 to 0 of 0 a, b(c), 10 d",
    "choose -5 to -7 of a(X) over X in k",
    "choose 1 to 1 of a, b over X in k, Y in m",
    "choose 1 to 1 of a if b",
    "choose 1 to 1 of a for X in k",
    "choose 1 to 1 of a over X in k if b for Y in k",
    "choose 1 to 1 of a(X,Y,Z), 2 b over X in k if c and Y unlike Z for Y in k, Z in m",
    f"choose -{NINES} to {NINES} of {NINES} a, 11 b",
)

# Rows as they may be told, and as they are shown.
OTHERWISE = (
    ("  kind   hue red  green ", "kind hue red green"),
    ("rule a ( b , X,c )for X in k", "rule a(b,X,c) for X in k"),
    ("rule a(b)if c(d)and not e( f ,g)", "rule a(b) if c(d) and not e(f,g)"),
    ("may a for X in k,Y in m ,Z in k", "may a for X in k, Y in m, Z in k"),
    ("never least 1 of 1 a,1 b(c,d),2 e ,0 f over X in k,Y in k",
     "never least 1 of a, b(c,d), 2 e, 0 f over X in k, Y in k"),
    ("choose 1 to 1 of 1 a ( X,Y ) , 1 b over X in k", "choose 1 to 1 of a(X,Y), b over X in k"),
    ("never most 1 of 1 a and b", "never most 1 of a and b"),
)


class Rows(unittest.TestCase):
    def test_as_shown(self):
        for line in SHOWN:
            with self.subTest(line=line):
                self.assertEqual(shown_row(read_row(line)), line)

    def test_told_otherwise(self):
        for told, line in OTHERWISE:
            with self.subTest(told=told):
                self.assertEqual(shown_row(read_row(told)), line)
                self.assertEqual(read_row(line), read_row(told))

    def test_worths(self):
        for word in ("never least 5 of ", "never most 5 of ", "choose 1 to 1 of "):
            self.assertEqual(shown_row(read_row(word + "0 a")), word + "0 a")
            self.assertEqual(shown_row(read_row(word + "1 a")), word + "a")
            self.assertEqual(shown_row(read_row(word + "a")), word + "a")
            self.assertEqual(shown_row(read_row(word + "2 a")), word + "2 a")
            self.assertEqual(shown_row(read_row(word + "10 a, 1 b, 11 c")), word + "10 a, b, 11 c")

    def test_numbers_of_1_are_no_worths(self):
        for line in ("never least 1 of a", "never most -1 of a", "choose 1 to 1 of a"):
            self.assertEqual(shown_row(read_row(line)), line)

    def test_rows_by_tuples(self):
        self.assertEqual(shown_row(("kind", "hue", ["red", "green"])), "kind hue red green")
        self.assertEqual(shown_row(("rule", thing("a", "X", "b"), [("is", B), ("unlike", "X", "c")], [("X", "k")])),
                         "rule a(X,b) if b and X unlike c for X in k")
        self.assertEqual(shown_row(("never", [("most", -1, [(A, 1), (B, 0)], [("X", "k"), ("Y", "k")])], [])),
                         "never most -1 of a, 0 b over X in k, Y in k")
        self.assertEqual(shown_row(("choose", 0, -2, [(A, 3)], [], [("not", B)], [])), "choose 0 to -2 of 3 a if not b")

    def test_by_chance(self):
        dice = random.Random(91)
        for count in range(800):
            row = some_row(dice)
            line = shown_row(row)
            self.assertIs(type(line), str)
            self.assertEqual(line, glued(row_words(row)))
            self.assertEqual(read_row(line), row)

    def test_glued_is_held_against_the_documents_own(self):
        self.assertEqual(glued(row_words(read_row(SHOWN[17]))), SHOWN[17])
        self.assertEqual(glued("rule a ( b , c ) , d ) e ( f".split()), "rule a(b,c), d) e(f")

    def test_argument_names(self):
        self.assertEqual(shown_row(row=("rule", A, [], [])), "rule a")
        self.assertEqual(shown_rule(rule=("make", 0, []), table=["a"]), "rule a")


TABLE = ["a", "b(c)", "d(e,f)", "g(h,i,j)"]


class Rules(unittest.TestCase):
    def shown(self, rule, line):
        self.assertEqual(shown_rule(rule, TABLE), line)
        self.assertEqual(shown_row(read_row(line)), line)

    def test_words(self):
        self.shown(("make", 0, []), "rule a")
        self.shown(("may", 0, []), "may a")
        self.shown(("never", None, [("in", 0)]), "never a")

    def test_things(self):
        self.shown(("make", 3, [("in", 1), ("out", 2)]), "rule g(h,i,j) if b(c) and not d(e,f)")
        self.shown(("may", 2, [("out", 3)]), "may d(e,f) if not g(h,i,j)")
        self.shown(("never", None, [("out", 0), ("in", 3), ("in", 3)]), "never not a and g(h,i,j) and g(h,i,j)")

    def test_counts(self):
        self.shown(("never", None, [("least", 2, [(0, 1), (1, 2), (2, 0), (0, 1)])]),
                   "never least 2 of a, 2 b(c), 0 d(e,f), a")
        self.shown(("make", 1, [("most", -1, [(3, 1)]), ("in", 0), ("least", 0, [(0, 10), (3, 1)])]),
                   "rule b(c) if most -1 of g(h,i,j) and a and least 0 of 10 a, g(h,i,j)")
        self.shown(("may", 0, [("most", 1, [(0, 1)])]), "may a if most 1 of a")

    def test_numbers_of_thirty_figures(self):
        great = 10 ** 30 - 1
        self.shown(("never", None, [("least", great, [(0, great)]), ("most", -great, [(1, 1)])]),
                   f"never least {NINES} of {NINES} a and most -{NINES} of b(c)")

    def test_numbers_of_more_figures(self):
        great = 10 ** 299
        figures = "1" + "0" * 299
        self.assertEqual(shown_rule(("never", None, [("least", great, [(0, great)]), ("most", -great, [(1, 1)])]), TABLE),
                         f"never least {figures} of {figures} a and most -{figures} of b(c)")

    def test_things_by_their_numbers(self):
        self.assertEqual(shown_rule(("make", 1, [("in", 0)]), ["b", "a"]), "rule a if b")
        self.assertEqual(shown_rule(("make", 0, []), ["a(b)", "c"]), "rule a(b)")

    def test_by_chance(self):
        dice = random.Random(92)
        words = {"make": "rule", "may": "may", "never": "never"}
        for count in range(300):
            parts = []
            body = []
            for more in range(dice.randrange(1, 4)):
                number = dice.randrange(4)
                sort = dice.choice(("in", "out", "least", "most"))
                if sort in ("in", "out"):
                    parts.append((sort, number))
                    body.append(("not " if sort == "out" else "") + TABLE[number])
                else:
                    bound = dice.choice((-2, 0, 1, 10 ** 29))
                    items = [(dice.randrange(4), dice.choice((0, 1, 2, 10 ** 29))) for one in range(dice.randrange(1, 4))]
                    parts.append((sort, bound, items))
                    shown = [("" if worth == 1 else f"{worth} ") + TABLE[one] for one, worth in items]
                    body.append(f"{sort} {bound} of " + ", ".join(shown))
            word = dice.choice(sorted(words))
            if word == "never":
                self.shown((word, None, parts), "never " + " and ".join(body))
            else:
                self.shown((word, 2, parts), f"{words[word]} d(e,f) if " + " and ".join(body))


class PutAgain(unittest.TestCase):
    def again(self, rows):
        """Looks whether the plain program of rows, shown, read and put, is the same; tells how it is shown."""
        table, plain = plain_of(rows)
        lines = [shown_rule(rule, table) for rule in plain[1]]
        self.assertEqual(plain_of(read("\n".join(lines))), (table, plain))
        self.assertEqual(plain_of([read_row(line) for line in lines]), (table, plain))
        return lines

    def test_rows_of_all_forms(self):
        lines = self.again(read("kind k a b\n"
                                "rule p(X) if q(X,Y) and X unlike Y and least 1 of r(Z), 2 s over Z in k for X in k, Y in k\n"
                                "may q(X,Y) for X in k, Y in k\n"
                                "never p(a) and most 0 of r(Z) over Z in k\n"
                                "choose 1 to 1 of r(X) over X in k if not s\n"))
        self.assertEqual(lines, [
            "rule p(a) if q(a,b) and least 1 of r(a), r(b), 2 s, 2 s",
            "rule p(b) if q(b,a) and least 1 of r(a), r(b), 2 s, 2 s",
            "may q(a,a)", "may q(a,b)", "may q(b,a)", "may q(b,b)",
            "never p(a) and most 0 of r(a), r(b)",
            "may r(a) if not s", "may r(b) if not s",
            "never not s and most 0 of r(a), r(b)", "never not s and least 2 of r(a), r(b)"])

    def test_no_rows(self):
        self.assertEqual(self.again([]), [])

    def test_by_chance(self):
        for rows in made_up_rows(93, 300):
            self.again(rows)

    def test_numbers_of_thirty_figures(self):
        less = "9" * 29 + "8"
        lines = self.again(read(f"choose -{less} to {less} of {NINES} a, 0 b"))
        self.assertEqual(lines[2:], [f"never most -{NINES} of {NINES} a, 0 b", f"never least {NINES} of {NINES} a, 0 b"])

    def test_numbers_of_more_figures(self):
        table, plain = plain_of(read(f"choose -{NINES} to {NINES} of a"))
        great = "1" + "0" * 30
        self.assertEqual([shown_rule(rule, table) for rule in plain[1]],
                         ["may a", f"never most -{great} of a", f"never least {great} of a"])

    def test_the_widest(self):
        kinds = "kind k a b c d e f g h i j\nkind m a b c d e f\n"
        self.again(read(kinds + "choose 3 to 4 of 2 p(X,Y) over X in k, Y in m"))
        lines = self.again(read("kind k a b c d\n" + "rule p(X) if q(Y) and r(Z) for X in k, Y in k, Z in k\n" * 6
                                + "may p(X) for X in k\n" * 4))
        self.assertEqual(len(lines), 400)


class HandedIn(unittest.TestCase):
    def test_what_is_handed_in_stays(self):
        dice = random.Random(94)
        for count in range(200):
            row = some_row(dice)
            kept = copy.deepcopy(row)
            shown_row(row)
            self.assertEqual(row, kept)
        for rows in made_up_rows(95, 50):
            put = plain_of(rows)
            kept = copy.deepcopy(put)
            for rule in put[1][1]:
                shown_rule(rule, put[0])
            self.assertEqual(put, kept)

    def test_what_is_read_from_shown_rows(self):
        for rows in made_up_rows(96, 100):
            self.assertEqual("\n".join(shown_row(row) for row in rows), text_of_rows(rows))


if __name__ == "__main__":
    unittest.main()
