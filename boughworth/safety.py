"""Whether any tree of a book has a ring: by a table of hangs that is safe, or by a least tree that has one."""

from boughworth.books import downs_of, forms_of, parts_of, sort_of_form, sorts_of, ups_of
from boughworth.choices import choices, choices_of_size, tree_chosen
from boughworth.errors import TooGreat
from boughworth.growth import forms_that_live, least_sizes
from boughworth.hangs import hang_at, reads_at_form, reads_with_hangs
from boughworth.rings import ring_in
from boughworth.spots import reads_of_tree
from boughworth.trees import MOST_PLACES

MOST_HANGS = 12


def is_safe(book, table):
    return is_table(book, table) and all([is_closed_at(book, form, table) for form in forms_that_live(book)])


def is_table(book, table):
    if set(table) != set(least_sizes(book)):
        return False
    return all([is_list_of_hangs(book, sort, hangs) for sort, hangs in table.items()])


def is_list_of_hangs(book, sort, hangs):
    return 1 <= len(hangs) <= MOST_HANGS and all([is_hang(book, sort, hang) for hang in hangs])


def is_hang(book, sort, hang):
    if not all([down in downs_of(book, sort) and up in ups_of(book, sort) for down, up in hang]):
        return False
    return list(hang) == sorted(set(hang))


# A wider hang brings all rings and all pairs that a hang within it brings, so it is enough to choose the widest ones.
def is_closed_at(book, form, table):
    rules_read = reads_at_form(book, form)
    for hangs in choices([widest(table[part]) for part in parts_of(form)]):
        reads = reads_with_hangs(rules_read, hangs)
        if ring_in(reads) is not None:
            return False
        made = hang_at(book, sort_of_form(form), reads, -1)
        if not is_within_one(made, table[sort_of_form(form)]):
            return False
    return True


def widest(hangs):
    unlike = sorted(set(hangs))
    return [hang for hang in unlike if not is_within_one(hang, [other for other in unlike if other != hang])]


def is_within_one(hang, others):
    return any([all([pair in other for pair in hang]) for other in others])


# From the fewest places on, so that the first tree with a ring has the fewest. Its parts have none, so its ring shows
# at its form, with the hangs of its parts; and of all trees with one hang it is enough to know a least one.
def order_for_all(book):
    forms = [(form, reads_at_form(book, form)) for form in forms_of(book)]
    known = {}
    for name, downs, ups in sorts_of(book):
        known[name] = {}
    for size in range(1, MOST_PLACES + 1):
        for form, rules_read in forms:
            tree = learn_of_size(book, form, rules_read, size, known)
            if tree is not None:
                return ("ring", tree, ring_in(reads_of_tree(book, tree)))
        need_few_hangs(known)
    return ("safe", safe_table(book, known))


# What is known of trees are their hangs. Told is the first tree with a ring, or None.
def learn_of_size(book, form, rules_read, size, known):
    sort = sort_of_form(form)
    for hangs in choices_of_size(known, parts_of(form), size - 1):
        tree = tree_chosen(form, known, hangs)
        reads = reads_with_hangs(rules_read, hangs)
        if ring_in(reads) is not None:
            return tree
        made = hang_at(book, sort, reads, -1)
        # Within a hang of a tree of no more places it brings nothing that the other one does not bring.
        if not is_within_one(made, list(known[sort])):
            known[sort][made] = (size, tree)
    return None


# Beyond that nothing is promised, and the choices would soon be too many to look at.
def need_few_hangs(known):
    if any([len(hangs) > MOST_HANGS for hangs in known.values()]):
        raise TooGreat("trees of one sort have too many unlike hangs")


def safe_table(book, known):
    table = {}
    for sort in least_sizes(book):
        table[sort] = widest(list(known[sort]))
    if not is_safe(book, table):
        raise TooGreat("trees of sixty places tell neither a ring nor a safe table")
    return table
