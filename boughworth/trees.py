"""What a tree of a book is, its places, and the boughs that stand there."""

from boughworth.books import form_named, forms_of, parts_of, sort_of_form
from boughworth.errors import NoFit, NoPlace

MOST_PLACES = 60


# Stops at the first place too many, so it takes few steps however great the thing is.
def is_tree(book, thing):
    waiting = [(thing, None)]
    seen = 0
    while waiting:
        pair = waiting.pop()
        form = form_of_head(book, pair[0])
        if seen == MOST_PLACES or form is None or pair[1] not in (None, sort_of_form(form)):
            return False
        seen += 1
        waiting.extend(list(zip(pair[0][1], parts_of(form))))
    return True


# The form by which the thing is made but for its parts, which may still be anything; None where there is none.
def form_of_head(book, thing):
    if not isinstance(thing, tuple) or len(thing) != 2 or not isinstance(thing[1], tuple):
        return None
    for form in forms_of(book):
        if form[0] == thing[0] and len(parts_of(form)) == len(thing[1]):
            return form
    return None


def sort_of(book, tree):
    return sort_of_form(form_named(book, tree[0]))


def is_tree_of(book, sort, thing):
    return is_tree(book, thing) and sort_of(book, thing) == sort


def places_of(tree):
    return list(boughs_by_place(tree))


def boughs_by_place(tree):
    boughs = {}
    waiting = [((), tree)]
    while waiting:
        pair = waiting.pop()
        boughs[pair[0]] = pair[1]
        below = [(pair[0] + (k,), part) for k, part in enumerate(pair[1][1])]
        waiting.extend(below[::-1])
    return boughs


def bough_at(tree, place):
    return boughs_down_to(tree, place)[-1]


def put_at(book, tree, place, bough):
    boughs = boughs_down_to(tree, place)
    if sort_of(book, bough) != sort_of(book, boughs[-1]):
        raise NoFit("the bough is of another sort than the one at the place")
    made = bough
    for above, k in zip(boughs[:-1][::-1], place[::-1]):
        made = (above[0], above[1][:k] + (made,) + above[1][k + 1:])
    return made


# From the top to the place, one bough for each step of the way.
def boughs_down_to(tree, place):
    boughs = [tree]
    for k in place:
        parts = boughs[-1][1]
        if not 0 <= k < len(parts):
            raise NoPlace("no bough stands at this place")
        boughs.append(parts[k])
    return boughs
