"""A desk: it is told rows, answers each with a text, and keeps books, trees and kept trees under names."""

from boughworth.alikes import alike
from boughworth.asking import worth_at, worths_of
from boughworth.books import sorts_of
from boughworth.booktexts import read_book
from boughworth.cheapest import cheapest
from boughworth.deskrows import read_row, show_spot
from boughworth.errors import NoName
from boughworth.kept import Kept
from boughworth.passes import passes_of
from boughworth.safety import order_for_all
from boughworth.straight import made_straight
from boughworth.treetexts import read_tree, show_tree


class Desk:

    # Trees and kept trees stand with their book, as tuples of both.
    def __init__(self):
        self.books = {}
        self.trees = {}
        self.kepts = {}

    def say(self, row):
        read = read_row(row)
        things = [self.thing_of(kind, told) for kind, told in read]
        if things[0] in ("book", "tree", "straight", "keep"):
            self.set_down(things[0], things[1], things[2:])
            return "ok"
        return answer_to(things[0], things[1:])

    # What stands under a name of its kind; anything else that a row tells is the thing itself.
    def thing_of(self, kind, told):
        if kind == "book":
            return found_under(self.books, told)
        if kind == "tree":
            return found_under(self.trees, told)
        if kind == "kept":
            return found_under(self.kepts, told)
        return told

    # What may be refused is made ahead of its being set down.
    def set_down(self, first, name, things):
        if first == "book":
            self.books[name] = read_book(things[0])
        elif first == "straight":
            self.books[name] = made_straight(things[0])
        elif first == "tree":
            self.trees[name] = (things[0], read_tree(things[0], things[1]))
        else:
            book = things[0][0]
            self.kepts[name] = (book, Kept(book, things[0][1], things[1]))


def found_under(shelf, name):
    if name not in shelf:
        raise NoName("nothing of the kind stands under this name")
    return shelf[name]


def answer_to(first, things):
    if first in ("worth", "order"):
        return answer_of_tree(first, things[0], things[1:])
    if first in ("put", "give", "back", "show", "tell"):
        return answer_of_kept(first, things[0], things[1:])
    return answer_of_books(first, things)


def answer_of_tree(first, pair, things):
    book = pair[0]
    tree = pair[1]
    if first == "worth":
        return str(worth_at(book, tree, things[2], (things[0], things[1])))
    told = worths_of(book, tree, things[0])
    if told[0] == "ring":
        return " ".join(["ring"] + [show_spot(spot) for spot in told[1]])
    return " ".join(["order"] + [show_spot(spot) for spot in told[2]])


def answer_of_kept(first, pair, things):
    book = pair[0]
    kept = pair[1]
    if first == "show":
        return show_tree(kept.tree())
    if first == "tell":
        return str(kept.worth((things[0], things[1])))
    if first == "put":
        return str(len(kept.put(things[0], read_tree(book, things[1]))))
    if first == "give":
        return str(len(kept.give(things[0], things[1])))
    return str(len(kept.back()))


def answer_of_books(first, things):
    if first == "safe":
        told = order_for_all(things[0])
        return "safe" if told[0] == "safe" else "ring " + show_tree(told[1])
    if first == "passes":
        told = passes_of(things[0])
        return "stuck" if told[0] == "stuck" else str(max([0] + list(told[1].values())))
    if first == "alike":
        told = alike(things[0], things[1], things[2], things[3], things[4])
        return "alike" if told[0] == "alike" else "parted " + show_tree(told[1])
    return show_prices(things[0], cheapest(things[0], things[1]))


def show_prices(book, told):
    found = [sort[0] for sort in sorts_of(book) if sort[0] in told]
    return " ".join([name + ":" + str(told[name][0]) for name in found])
