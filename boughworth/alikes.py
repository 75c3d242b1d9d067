"""Whether two plain books tell the same of all trees of a sort: by trees of which all others are made up, or by a least
tree that parts the books.

In a plain book no product has a part on both of its sides. So where the row of a part is made up of other rows, the row
of the whole is made up in the same way of those that the form makes with these in the part's place.
"""

from boughworth.books import forms_of, parts_of, sort_of_form, sorts_of, ups_of
from boughworth.choices import choices, choices_of_size, tree_chosen
from boughworth.errors import NoBuild, NoPlain, NoTree, NoWorth, TooGreat
from boughworth.growth import forms_that_live, least_sizes
from boughworth.plainbooks import is_plain, of_one_build, row_by_form, row_of
from boughworth.rows import columns_left, fractions_for, is_fraction, is_made_up, steps_of, steps_with
from boughworth.trees import MOST_PLACES, is_tree_of

MOST_IN_A_BASIS = 8


def alike(one, other, sort, x, y):
    need_asked(one, other, sort, x, y)
    known = rows_known(one, other)
    for row, told in known[sort].items():
        if not is_same(one, other, sort, x, y, row):
            return ("parted", told[1])
    return ("alike", basis_of(one, other, known))


def need_asked(one, other, sort, x, y):
    if not is_plain(one) or not is_plain(other):
        raise NoPlain("one of the books is not plain")
    if not of_one_build(one, other):
        raise NoBuild("the books are not of one build")
    if sort not in least_sizes(one):
        raise NoTree("there is no tree of this sort")
    if x not in ups_of(one, sort) or y not in ups_of(other, sort):
        raise NoWorth("a word is no up of this sort")


# Whether x by the one book and y by the other are the same number in the row.
def is_same(one, other, sort, x, y, row):
    ups = ups_of(one, sort)
    return row[1 + ups.index(x)] == row[1 + len(ups) + ups_of(other, sort).index(y)]


# What is known are rows of trees, of fewer places first, none made up of those ahead of it, of which the rows of all
# trees of at most sixty places are made up. So of the trees that part the books one of the fewest places is here.
def rows_known(one, other):
    known = {}
    steps = {}
    for name, downs, ups in sorts_of(one):
        known[name] = {}
        steps[name] = []
    for size in range(1, MOST_PLACES + 1):
        for form in forms_of(one):
            learn_of_size(one, other, form, size, known, steps)
    return known


def learn_of_size(one, other, form, size, known, steps):
    sort = sort_of_form(form)
    for rows in choices_of_size(known, parts_of(form), size - 1):
        row = row_by_form(one, other, form[0], rows)
        if columns_left(steps[sort], row):
            known[sort][row] = (size, tree_chosen(form, known, rows))
            steps[sort] = steps_with(steps[sort], row)


def basis_of(one, other, known):
    trees = {}
    rows = {}
    steps = {}
    for sort in least_sizes(one):
        trees[sort] = [told[1] for told in known[sort].values()]
        rows[sort] = list(known[sort])
        steps[sort] = steps_of(rows[sort])
    sums = {}
    for key, made in rows_made(one, other, rows).items():
        sums[key] = fractions_for(steps[made[0]], made[1])
        if sums[key] is None:
            raise TooGreat("trees of sixty places neither part the books nor make up all others")
    return (trees, sums)


# From each form's name with the number of a row for each part to the sort, and the row of the tree that it makes.
def rows_made(one, other, rows):
    made = {}
    for form in forms_that_live(one):
        for chosen in choices([list(enumerate(rows[part])) for part in parts_of(form)]):
            key = (form[0],) + tuple([number for number, row in chosen])
            made[key] = (sort_of_form(form), row_by_form(one, other, form[0], [row for number, row in chosen]))
    return made


def bears_out(one, other, sort, x, y, basis):
    trees = basis[0]
    sums = basis[1]
    if set(trees) != set(least_sizes(one)):
        return False
    rows = {}
    for name, listed in trees.items():
        if len(listed) > MOST_IN_A_BASIS or not all([is_tree_of(one, name, tree) for tree in listed]):
            return False
        rows[name] = [row_of(one, other, tree) for tree in listed]
    made = rows_made(one, other, rows)
    if set(sums) != set(made):
        return False
    if not all([is_sum(told[1], rows[told[0]], sums[key]) for key, told in made.items()]):
        return False
    return all([is_same(one, other, sort, x, y, row) for row in rows[sort]])


def is_sum(row, rows, fractions):
    if len(fractions) != len(rows) or not all([is_fraction(pair) for pair in fractions]):
        return False
    return is_made_up(row, rows, fractions)
