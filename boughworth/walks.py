"""A tree reckoned in walks from left to right, by a table of passes that holds."""

from boughworth.asking import need_given, worths_in_order
from boughworth.books import downs_of, ups_of
from boughworth.spots import reads_by_spot, rules_by_spot
from boughworth.trees import boughs_by_place, sort_of


def walked(book, tree, given, table):
    need_given(book, tree, given)
    rules = rules_by_spot(book, tree)
    steps = steps_of_walks(book, tree, table, reads_by_spot(rules))
    order = [spot for spot in rules if rules[spot] is None] + [spot for number, spot in steps]
    worths = worths_in_order(book, rules, given, order)
    return [(number, spot, worths[spot]) for number, spot in steps]


# Tuples of a pass and a spot that is reckoned in it. In a pass that no worth has nothing is reckoned.
def steps_of_walks(book, tree, table, reads):
    groups = groups_of_walk(book, tree)
    steps = []
    for number in sorted(set(list(table.values()))):
        for sort, spots in groups:
            due = [spot for spot in spots if table[(sort, spot[1])] == number]
            steps.extend([(number, spot) for spot in in_turn(due, reads)])
    return steps


# What is reckoned together, as tuples of a sort and spots, in the order of a walk: the downs of each bough but the top
# where the walk comes to it, its ups where it leaves it.
def groups_of_walk(book, tree):
    groups = []
    inside = []
    for place, bough in boughs_by_place(tree).items():
        while inside and not is_beneath(place, inside[-1][0]):
            groups.append(ups_group(book, inside.pop()))
        sort = sort_of(book, bough)
        if place != ():
            groups.append(group_of(place, sort, downs_of(book, sort)))
        inside.append((place, sort))
    return groups + [ups_group(book, pair) for pair in inside[::-1]]


def is_beneath(place, above):
    return place[:len(above)] == above


def ups_group(book, pair):
    return group_of(pair[0], pair[1], ups_of(book, pair[1]))


def group_of(place, sort, words):
    return (sort, [(place, word) for word in words])


# Always the first one that reads none of those still to come; there is one, as no rules of one at go round.
def in_turn(spots, reads):
    told = []
    coming = spots
    while coming:
        free = [spot for spot in coming if not any([other in coming for other in reads[spot]])]
        told.append(free[0])
        coming = [spot for spot in coming if spot != free[0]]
    return told
