"""The words of a row, names, variables and numbers [33], and [2]."""

import itertools
import re
import unittest

from standstill.words import is_name, is_number, is_variable, words_of

KEPT = "kind rule may choose never if and not unlike least most of to over in for".split()
ABC = "abcdefghijklmnopqrstuvwxyz"
# Letters and figures, each seen as such by Python, that aren't ASCII's.
FOREIGN_SMALL = ("\u00e4", "\u00df", "\u03b1", "\u0131", "\uff41", "\u1d43")
FOREIGN_GREAT = ("\u00c4", "\u0391", "\u0130", "\uff21")
FOREIGN_FIGURES = ("\u0663", "\u00b2", "\uff11", "\u2460", "\u0967")


class Words(unittest.TestCase):
    def told(self, line, *words):
        found = words_of(line)
        self.assertIs(type(found), list)
        self.assertEqual(found, list(words))

    def test_no_words(self):
        self.told("")
        self.told(" ")
        self.told("      ")

    def test_blanks(self):
        self.told("rule a if b", "rule", "a", "if", "b")
        self.told("  rule   a if    b ", "rule", "a", "if", "b")
        self.told("a", "a")
        self.told(" a", "a")
        self.told("a ", "a")

    def test_lone_signs(self):
        for line in ("a(X,b)", "a ( X , b )", " a( X,b ) ", "a (X ,b)", "a(X, b)", "a  (  X  ,  b  )  "):
            self.told(line, "a", "(", "X", ",", "b", ")")
        self.told("(", "(")
        self.told(")", ")")
        self.told(",", ",")
        self.told("(),", "(", ")", ",")
        self.told(",,((", ",", ",", "(", "(")
        self.told("a,b", "a", ",", "b")
        self.told("a)b(c", "a", ")", "b", "(", "c")
        self.told(")a", ")", "a")

    def test_other_signs_are_of_a_run(self):
        self.told("a\tb", "a\tb")
        self.told("a\nb c", "a\nb", "c")
        self.told("\t", "\t")
        self.told(" \n ", "\n")
        self.told("a\t(\nb", "a\t", "(", "\nb")
        self.told("rule\ta", "rule\ta")
        self.told("a\n", "a\n")
        self.told("a.b;c -7+x{}[]", "a.b;c", "-7+x{}[]")
        self.told("'a b'", "'a", "b'")

    def test_all_signs(self):
        for number in range(32, 127):
            sign = chr(number)
            if sign in "(),":
                self.told("a" + sign + "b", "a", sign, "b")
            elif sign == " ":
                self.told("a" + sign + "b", "a", "b")
            else:
                self.told("a" + sign + "b", "a" + sign + "b")
                self.told(sign + sign, sign + sign)

    def test_all_short_texts(self):
        for size in range(6):
            for signs in itertools.product(" (),a\t", repeat=size):
                line = "".join(signs)
                self.told(line, *re.findall(r"[(),]|[^(), ]+", line))

    def test_of_any_text(self):
        # Only the blank parts words, not what else Python takes for space.
        for sign in ("\r", "\v", "\f", "\u00a0", "\u2003", "\u3000", "\x00", "\u00e4"):
            self.assertIs(type(words_of("a" + sign + "b")), list)
            self.told("a" + sign + "b", "a" + sign + "b")

    def test_told_lists_are_new(self):
        first = words_of("a b")
        first.append("c")
        first[0] = "d"
        self.assertEqual(words_of("a b"), ["a", "b"])
        words_of("").append("a")
        self.assertEqual(words_of(""), [])

    def test_long(self):
        self.assertEqual(words_of("(a ," * 2000), ["(", "a", ","] * 2000)
        self.assertEqual(words_of("a" * 5000), ["a" * 5000])

    def test_argument_names(self):
        self.assertEqual(words_of(line="a b"), ["a", "b"])
        self.assertIs(is_name(word="a"), True)
        self.assertIs(is_variable(word="A"), True)
        self.assertIs(is_number(word="1"), True)


class Sorts(unittest.TestCase):
    def sort(self, word, name=False, variable=False, number=False):
        self.assertEqual((word, is_name(word), is_variable(word), is_number(word)), (word, name, variable, number))
        for told in (is_name(word), is_variable(word), is_number(word)):
            self.assertIs(type(told), bool)

    def test_the_empty_text(self):
        self.sort("")

    def test_names(self):
        for word in list(ABC) + ["ab", "node", "abcdefgh", "zzzzzzzz", "kinds", "ki", "ifs", "i", "o", "nota", "dfor"]:
            self.sort(word, name=True)

    def test_words_that_are_no_names(self):
        for word in ("abcdefghi", "a" * 30, "aB", "Ab1", "a1", "1a", "a_b", "a-b", "a b", " a", "a ", "a.", "a\n", "\na",
                     "a\t", "(", ")", ",", "a(", "a,b", "_", "-", "~", "`", "{", "@", "["):
            self.sort(word)
        self.assertIs(is_name("abcDefgh"), False)
        self.assertIs(is_name("A"), False)

    def test_kept_words(self):
        self.assertEqual(len(KEPT), 16)
        for word in KEPT:
            self.sort(word)
            self.sort(word + "a", name=len(word) < 8)
            self.sort("a" + word, name=len(word) < 8)
            self.sort(word.capitalize(), variable=True)

    def test_variables(self):
        for word in list(ABC.upper()) + ["Ab", "Node", "Abcdefgh", "Zzzzzzzz", "If"]:
            self.sort(word, variable=True)

    def test_words_that_are_no_variables(self):
        for word in ("Abcdefghi", "AB", "AbC", "AAAAAAAA", "A1", "A_", "A ", " A", "A\n", "1A", "aA", "-A", "A-", "A(",
                     "[a", "@a", "`A"):
            self.sort(word)

    def test_numbers(self):
        for word in list("0123456789") + ["10", "100", "7", "-7", "-1", "-10", "1" + "0" * 29, "9" * 30, "-" + "9" * 30,
                                          "-1" + "0" * 29, "90"]:
            self.sort(word, number=True)

    def test_words_that_are_no_numbers(self):
        for word in ("9" * 31, "-" + "9" * 31, "1" + "0" * 30, "-0", "00", "01", "-01", "007", "0" * 30, "-", "--7", "+7",
                     "+", "+0", "7-", "1 ", " 1", "1\n", "\n1", "1.0", "1e3", "1_0", "0x1", "- 7", "7a", "a7", "1,0",
                     "-a", ":", "/", "-:"):
            self.sort(word)

    def test_letters_and_figures_that_are_not_asciis(self):
        for letter in FOREIGN_SMALL:
            for word in (letter, "a" + letter, letter + "a", "A" + letter):
                self.sort(word)
        for letter in FOREIGN_GREAT:
            for word in (letter, letter + "a", "A" + letter, "a" + letter):
                self.sort(word)
        for figure in FOREIGN_FIGURES:
            for word in (figure, "1" + figure, figure + "1", "-" + figure, "a" + figure, "A" + figure):
                self.sort(word)

    def test_each_sign_by_itself(self):
        for number in range(256):
            sign = chr(number)
            self.sort(sign, name=bool(re.fullmatch("[a-z]", sign)), variable=bool(re.fullmatch("[A-Z]", sign)),
                      number=bool(re.fullmatch("[0-9]", sign)))

    def test_each_sign_behind_and_ahead(self):
        for number in range(256):
            sign = chr(number)
            for word in (sign + "a", "a" + sign, "A" + sign, sign + "1", "1" + sign, "-" + sign, "ab" + sign + "cd"):
                self.sort(word, name=bool(re.fullmatch("[a-z]+", word)), variable=bool(re.fullmatch("[A-Z][a-z]*", word)),
                          number=bool(re.fullmatch("-?[1-9][0-9]*", word)))


if __name__ == "__main__":
    unittest.main()
