"""Which ups of a tree come to which of its downs, and what the spots at a form read.

A spot at a form is a tuple like the key of a rule: -1 and an own worth, or the number of a part and a worth of it.
"""

from boughworth.books import downs_of, formulas_by_key, key_of, parts_of, sort_at, ups_of, worths_of_sort
from boughworth.errors import Ring
from boughworth.formulas import readings_of
from boughworth.rings import found_from, ring_in
from boughworth.spots import reads_of_tree
from boughworth.trees import sort_of


def hang_of(book, tree):
    reads = reads_of_tree(book, tree)
    ring = ring_in(reads)
    if ring is not None:
        raise Ring(ring)
    return hang_at(book, sort_of(book, tree), reads, ())


# at is what the spots of the sort's worths begin with: the top's place in a tree, -1 at a form.
def hang_at(book, sort, reads, at):
    pairs = []
    for up in ups_of(book, sort):
        reached = found_from(reads, (at, up))
        pairs.extend([(down, up) for down in downs_of(book, sort) if (at, down) in reached])
    return tuple(sorted(pairs))


# What the rules alone read.
def reads_at_form(book, form):
    reads = {}
    for at in range(-1, len(parts_of(form))):
        for word in worths_of_sort(book, sort_at(form, at)):
            reads[(at, word)] = []
    for key, formula in formulas_by_key(form).items():
        reads[key] = [key_of(reading) for reading in readings_of(formula)]
    return reads


# What is read besides, with a hang for each part.
def reads_with_hangs(reads, hangs):
    wider = dict(reads)
    for k, hang in enumerate(hangs):
        for down, up in hang:
            wider[(k, up)] = wider[(k, up)] + [(k, down)]
    return wider
