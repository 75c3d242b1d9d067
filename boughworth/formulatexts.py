"""Formulas written as texts, and texts read as formulas.

Nothing here calls itself: formulas of books made straight may lie two hundred tuples within one another, and in a text
thousands of brackets may.
"""

from boughworth.errors import NoText
from boughworth.formulas import folded, is_formula
from boughworth.kinds import writes_whole

MOST_FIGURES = 6
PART_FIGURES = ("0", "1", "2")
# What stands between the formulas in a tuple of each kind that has any.
MARKS = {"plus": ("+",), "less": ("-",), "times": ("*",), "least": ("min",), "most": ("max",), "when": ("?", ":")}


def show_formula(formula):
    return folded(formula, lambda one, inner: bracketed(one[0], inner) if inner else show_leaf(one))


def show_leaf(leaf):
    if leaf[0] == "num":
        return str(leaf[1])
    if leaf[0] == "own":
        return "own." + leaf[1]
    return str(leaf[1]) + "." + leaf[2]


def bracketed(kind, inner):
    words = [inner[0]]
    for mark, text in zip(MARKS[kind], inner[1:]):
        words.append(mark)
        words.append(text)
    return "(" + " ".join(words) + ")"


# With a blank more at each bracket, blanks part all words of a text, and a blank too many leaves an empty word.
# Tuples are made of whatever stands in the places of numbers, words and formulas: only at the end, of the whole, it is
# asked whether it is a formula.
def read_formula(text):
    pile = []
    for word in text.replace("(", "( ").replace(")", " )").split(" "):
        if word == ")":
            close_bracket(pile)
        else:
            pile.append(read_leaf(word))
    if len(pile) != 1 or not is_formula(pile[0]):
        raise NoText("this text writes no formula")
    return pile[0]


def close_bracket(pile):
    inside = []
    while pile and pile[-1] != "(":
        inside.append(pile.pop())
    if not pile:
        raise NoText("a bracket is closed that was not opened")
    pile.pop()
    pile.append(unbracketed(inside[::-1]))


def unbracketed(inside):
    for kind, marks in MARKS.items():
        if tuple(inside[1::2]) == marks:
            return (kind,) + tuple(inside[::2])
    raise NoText("within a bracket stands what is not told there")


def read_leaf(word):
    if writes_whole(word, MOST_FIGURES):
        return ("num", int(word))
    cut = word.partition(".")
    if cut[0] == "own":
        return ("own", cut[2])
    if cut[0] in PART_FIGURES:
        return ("part", int(cut[0]), cut[2])
    return word
