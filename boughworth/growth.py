"""Which sorts have trees, of how few places, and the trees of just so many places counted and listed.

A row is a tuple of sorts, like a form's parts; its key is the row with a number of places in all. What a key stands
for are the tuples of trees, one for each sort of the row, that have so many places together.
"""

from boughworth.books import forms_of, parts_of, sort_of_form, sorts_of
from boughworth.errors import NoTree, TooMany

MOST_LISTED = 1000


def least_sizes(book):
    sizes = {}
    before = None
    while sizes != before:
        before = sizes
        sizes = sizes_one_round_on(book, before)
    return sizes


def sizes_one_round_on(book, before):
    sizes = {}
    for name, downs, ups in sorts_of(book):
        found = [least_size_by(form, before) for form in grown_forms(book, before) if sort_of_form(form) == name]
        if found:
            sizes[name] = min(found)
    return sizes


def grown_forms(book, sizes):
    return [form for form in forms_of(book) if all([part in sizes for part in parts_of(form)])]


def least_size_by(form, sizes):
    return 1 + sum([sizes[part] for part in parts_of(form)])


# By the form of fewest places a sort's parts are of fewer places than the sort, so they are made ahead of it.
def least_tree(book, sort):
    sizes = least_sizes(book)
    if sort not in sizes:
        raise NoTree("there is no tree of this sort")
    trees = {}
    for name in sorted(sizes, key=lambda one: sizes[one]):
        forms = [form for form in grown_forms(book, sizes) if sort_of_form(form) == name]
        form = min(forms, key=lambda one: least_size_by(one, sizes))
        trees[name] = (form[0], tuple([trees[part] for part in parts_of(form)]))
    return trees[sort]


def live_forms(book):
    return [form[0] for form in forms_that_live(book)]


def forms_that_live(book):
    return grown_forms(book, least_sizes(book))


def many_trees(book, sort, size):
    return counts_up_to(book, size).get(((sort,), size), 0)


def trees_of(book, sort, size):
    counts = counts_up_to(book, size)
    top = ((sort,), size)
    if counts.get(top, 0) > MOST_LISTED:
        raise TooMany("there are more than a thousand such trees")
    if counts.get(top, 0) == 0:
        return []
    made = {}
    for key in keys_needed(book, counts, top):
        made[key] = all_made(book, key, made)
    return [trees[0] for trees in made[top]]


# From the fewest places on: what a key is counted by has fewer places than the key itself.
def counts_up_to(book, size):
    rows = rows_of(book)
    counts = {}
    for total in range(size + 1):
        for row in rows:
            counts[(row, total)] = count_of(book, counts, row, total)
    return counts


def rows_of(book):
    rows = {(): True}
    for name, downs, ups in sorts_of(book):
        rows[(name,)] = True
    for form in forms_of(book):
        for start in range(len(parts_of(form))):
            rows[parts_of(form)[start:]] = True
    return list(rows)


def count_of(book, counts, row, total):
    if row == ():
        return 1 if total == 0 else 0
    if len(row) == 1:
        return sum([counts[key] for name, key in forms_with_keys(book, row, total)])
    return sum([counts[first] * counts[rest] for first, rest in cuts_of(row, total)])


# The forms by which the one tree of a row may be made, each with the key of its parts.
def forms_with_keys(book, row, total):
    if total == 0:
        return []
    return [(form[0], (parts_of(form), total - 1)) for form in forms_of(book) if sort_of_form(form) == row[0]]


# The keys of the first tree and of all others, for each way in which the places can be shared out.
def cuts_of(row, total):
    return [((row[:1], first), (row[1:], total - first)) for first in range(1, total)]


# Only what a listed tree is made of: other keys may have more trees than can be listed.
def keys_needed(book, counts, top):
    found = {top: True}
    waiting = [top]
    while waiting:
        above = waiting.pop()
        for key in keys_beneath(book, counts, above):
            if key not in found:
                found[key] = True
                waiting.append(key)
    return sorted(found, key=lambda key: key[1])


# The empty row is made of nothing.
def keys_beneath(book, counts, key):
    if len(key[0]) == 1:
        return [below for name, below in forms_with_keys(book, key[0], key[1]) if counts[below] > 0]
    found = []
    for first, rest in cuts_of(key[0], key[1]):
        if counts[first] * counts[rest] > 0:
            found.append(first)
            found.append(rest)
    return found


def all_made(book, key, made):
    if key[0] == ():
        return [()]
    found = []
    if len(key[0]) == 1:
        for name, below in forms_with_keys(book, key[0], key[1]):
            found.extend([((name, parts),) for parts in made.get(below, [])])
    else:
        for first, rest in cuts_of(key[0], key[1]):
            for tree in made.get(first, []):
                found.extend([tree + others for others in made.get(rest, [])])
    return found
