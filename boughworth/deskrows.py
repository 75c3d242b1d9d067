"""The rows that a desk is told, read word by word; and how it writes places and spots."""

from boughworth.errors import NoRow
from boughworth.formulatexts import PART_FIGURES
from boughworth.kinds import is_word, writes_whole

MOST_FIGURES = 30
# Of which kind the words behind the first one are. The names of things that stand on the desk are called by what they
# stand for, other names and words "word". What "text", "given" and "pricing" tell goes on to the row's end.
KINDS_BY_FIRST_WORD = {
    "book": ("word", "text"),
    "tree": ("word", "book", "text"),
    "worth": ("tree", "place", "word", "given"),
    "order": ("tree", "given"),
    "safe": ("book",),
    "passes": ("book",),
    "straight": ("word", "book"),
    "keep": ("word", "tree", "given"),
    "put": ("kept", "place", "text"),
    "give": ("kept", "word", "number"),
    "back": ("kept",),
    "show": ("kept",),
    "tell": ("kept", "place", "word"),
    "alike": ("book", "book", "word", "word", "word"),
    "cheap": ("book", "pricing"),
}


# A list of tuples of a kind and what is told by a word of that kind, the row's first word ahead of them.
def read_row(row):
    words = row.split(" ")
    kinds = KINDS_BY_FIRST_WORD.get(words[0])
    if kinds is None:
        raise NoRow("no row begins so")
    if kinds[-1] == "text":
        words = words_and_text(row, words[0], len(kinds))
    elif kinds[-1] in ("given", "pricing"):
        words = words[:len(kinds)] + [words[len(kinds):]]
    if len(words) != 1 + len(kinds):
        raise NoRow("this row has too few words or too many")
    return [("first", words[0])] + [(kind, read_as(kind, word)) for kind, word in zip(kinds, words[1:])]


# The text of a book begins in the next line, any other one behind its blank.
def words_and_text(row, first, many):
    if first != "book":
        return row.split(" ", many)
    cut = row.partition("\n")
    return cut[0].split(" ") + [cut[2]] if cut[1] else []


def read_as(kind, word):
    if kind == "text":
        return word
    if kind == "place":
        return read_place(word)
    if kind == "number":
        return read_number(word)
    if kind == "given":
        return read_pairs(word, "number")
    if kind == "pricing":
        if not word:
            raise NoRow("no sort is priced")
        return read_pairs(word, "word")
    if not is_word(word):
        raise NoRow("a word stands here that is none")
    return word


def read_place(word):
    if word == "top":
        return ()
    figures = word.split(".")
    if not all([figure in PART_FIGURES for figure in figures]):
        raise NoRow("this is no place")
    return tuple([int(figure) for figure in figures])


def read_number(word):
    if not writes_whole(word, MOST_FIGURES):
        raise NoRow("this is no number of at most thirty figures")
    return int(word)


# Of words like x=5: a dict, from each word to what is told behind the sign.
def read_pairs(words, kind):
    told = {}
    for word in words:
        cut = word.partition("=")
        if cut[0] in told:
            raise NoRow("a word stands here twice")
        told[read_as("word", cut[0])] = read_as(kind, cut[2])
    return told


def show_place(place):
    return ".".join([str(k) for k in place]) if place else "top"


def show_spot(spot):
    return show_place(spot[0]) + "." + spot[1]
