"""Choices of one thing for each part of a form.

known has for each sort a dict from things that are known of trees of the sort to tuples of the places of a least tree
of which that is so, and the tree.
"""

from boughworth.books import parts_of


# All tuples of one thing from each list.
def choices(lists):
    chosen = [()]
    for things in lists:
        longer = []
        for row in chosen:
            longer.extend([row + (thing,) for thing in things])
        chosen = longer
    return chosen


# All choices of a known thing for each part, by which the parts' least trees have just so many places together.
def choices_of_size(known, parts, total):
    rows = [((), total)]
    for part in parts:
        longer = []
        for chosen, left in rows:
            longer.extend([(chosen + (one,), left - told[0]) for one, told in known[part].items() if told[0] <= left])
        rows = longer
    return [chosen for chosen, left in rows if left == 0]


def tree_chosen(form, known, chosen):
    return (form[0], tuple([known[part][thing][1] for part, thing in zip(parts_of(form), chosen)]))
