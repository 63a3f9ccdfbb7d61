"""The words of a row, and their sorts."""

SMALL = "abcdefghijklmnopqrstuvwxyz"
GREAT = "ABCDEFGHIJKLMNOPQRSTUVWXYZ"
FIGURES = "0123456789"
LONE = "(),"
KEPT = ("kind", "rule", "may", "choose", "never", "if", "and", "not", "unlike",
        "least", "most", "of", "to", "over", "in", "for")


def words_of(line):
    """The words of a row, in their order."""
    spaced = line
    for sign in LONE:
        spaced = spaced.replace(sign, f" {sign} ")
    # Only blanks part words: a tab or a line end is a sign like others.
    return [word for word in spaced.split(" ") if word != ""]


def is_made_of(word, signs, most):
    """Whether the word has one to so many signs, all of them among these."""
    return 1 <= len(word) <= most and all([sign in signs for sign in word])


def is_name(word):
    """Whether the word is a name."""
    return is_made_of(word, SMALL, 8) and word not in KEPT


def is_variable(word):
    """Whether the word is a variable."""
    return is_made_of(word[:1], GREAT, 1) and (len(word) == 1 or is_made_of(word[1:], SMALL, 7))


def is_number(word):
    """Whether the word is a whole number, written in the one way it can be."""
    if word == "0":
        return True
    figures = word[1:] if word.startswith("-") else word
    return is_made_of(figures, FIGURES, 30) and not figures.startswith("0")
