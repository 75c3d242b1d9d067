"""Plain books, books of one build, and the rows of trees by two of them.

The row of a tree is the tuple of 1, the worths of all ups at its top by the one book, and by the other one.
"""

from boughworth.books import form_named, forms_of, formulas_by_key, parts_of, sort_of_form, sorts_of, ups_of, wheel_of
from boughworth.formulas import tuples_of
from boughworth.reckoning import reckoned
from boughworth.trees import boughs_by_place

PLAIN_KINDS = ("num", "part", "plus", "less", "times")


def is_plain(book):
    return wheel_of(book) == 0 and all([is_plain_form(form) for form in forms_of(book)])


def is_plain_form(form):
    return all([is_plain_formula(formula) for formula in formulas_by_key(form).values()])


def is_plain_formula(formula):
    return all([one[0] in PLAIN_KINDS for one in tuples_of(formula)])


def of_one_build(one, other):
    return build_of(one) == build_of(other)


def build_of(book):
    return ([sort[0] for sort in sorts_of(book)], [form[:3] for form in forms_of(book)])


# Walked from the last bough to the first, the rows of a bough's parts lie on top of the pile by then, the first one
# uppermost.
def row_of(one, other, tree):
    pile = []
    for bough in reversed(list(boughs_by_place(tree).values())):
        rows = [pile.pop() for part in bough[1]]
        pile.append(row_by_form(one, other, bough[0], rows))
    return pile.pop()


# The row of whatever tree the form makes of trees with these rows: in a plain book nothing else is read of them.
def row_by_form(one, other, name, rows):
    parts = parts_of(form_named(one, name))
    cuts = [1 + len(ups_of(one, part)) for part in parts]
    by_one = ups_by_form(one, name, [row[1:cut] for row, cut in zip(rows, cuts)])
    by_other = ups_by_form(other, name, [row[cut:] for row, cut in zip(rows, cuts)])
    return (1,) + by_one + by_other


# worths has for each part the tuple of its ups' worths.
def ups_by_form(book, name, worths):
    form = form_named(book, name)
    told = {}
    for k, part in enumerate(parts_of(form)):
        for up, worth in zip(ups_of(book, part), worths[k]):
            told[("part", k, up)] = worth
    formulas = formulas_by_key(form)
    return tuple([reckoned(formulas[(-1, up)], told, 0) for up in ups_of(book, sort_of_form(form))])
