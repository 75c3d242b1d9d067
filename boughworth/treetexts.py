"""Trees written as texts, and texts read as trees of a book."""

from boughworth.books import forms_of, parts_of
from boughworth.errors import NoText
from boughworth.trees import boughs_by_place, is_tree


# Walked from the last bough to the first, the texts of a bough's parts lie on top of the pile by then, the first one
# uppermost.
def show_tree(tree):
    pile = []
    for bough in reversed(list(boughs_by_place(tree).values())):
        parts = [pile.pop() for part in bough[1]]
        pile.append(bough[0] + "(" + ", ".join(parts) + ")" if parts else bough[0])
    return pile.pop()


# The names alone tell which tree it can be, as each form has its number of parts; whether brackets, commas and blanks
# stand as they should is seen when that tree is written.
def read_tree(book, text):
    tree = tree_of_names(book, text.replace("(", " ").replace(")", " ").replace(",", " ").split(" "))
    if not is_tree(book, tree) or show_tree(tree) != text:
        raise NoText("this text writes no tree of the book")
    return tree


# Perhaps with names of no form, parts of other sorts, or too many places; None where these names make no one tree.
def tree_of_names(book, names):
    counts = {}
    for form in forms_of(book):
        counts[form[0]] = len(parts_of(form))
    pile = []
    for name in reversed([word for word in names if word != ""]):
        many = counts.get(name, 0)
        if many > len(pile):
            return None
        pile.append((name, tuple([pile.pop() for number in range(many)])))
    return pile[0] if len(pile) == 1 else None
