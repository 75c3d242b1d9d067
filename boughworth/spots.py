"""The spots of a tree, the rule of each, and what it reads.

The rule of a spot is a tuple: the place of the form that tells it, the formula, and the formula's readings. The downs
of the top have none: None.
"""

from boughworth.books import downs_of, form_named, formulas_by_key, ups_of
from boughworth.errors import NoSpot
from boughworth.formulas import readings_of
from boughworth.reckoning import reckoned
from boughworth.trees import boughs_by_place, sort_of


def spots_of(book, tree):
    return list(rules_by_spot(book, tree))


def reads_at(book, tree, spot):
    rules = rules_by_spot(book, tree)
    need_spot(rules, spot)
    return spots_read(rules[spot])


def need_spot(rules, spot):
    if spot not in rules:
        raise NoSpot("the tree has no such spot")


def rules_by_spot(book, tree):
    boughs = boughs_by_place(tree)
    told = told_by_forms(book, [bough[0] for bough in boughs.values()])
    rules = {}
    for place, bough in boughs.items():
        sort = sort_of(book, bough)
        for down in downs_of(book, sort):
            rules[(place, down)] = None
            if place != ():
                above = boughs[place[:-1]]
                rules[(place, down)] = (place[:-1],) + told[above[0]][(place[-1], down)]
        for up in ups_of(book, sort):
            rules[(place, up)] = (place,) + told[bough[0]][(-1, up)]
    return rules


# The readings are looked for once for each form, not at each of its places again.
def told_by_forms(book, names):
    told = {}
    for name in names:
        if name not in told:
            told[name] = told_by_form(form_named(book, name))
    return told


def told_by_form(form):
    told = {}
    for key, formula in formulas_by_key(form).items():
        told[key] = (formula, readings_of(formula))
    return told


def reads_of_tree(book, tree):
    return reads_by_spot(rules_by_spot(book, tree))


def reads_by_spot(rules):
    reads = {}
    for spot, rule in rules.items():
        reads[spot] = spots_read(rule)
    return reads


def spots_read(rule):
    if rule is None:
        return []
    return [spot_of_reading(rule[0], reading) for reading in rule[2]]


def spot_of_reading(place, reading):
    if reading[0] == "own":
        return (place, reading[1])
    return (place + (reading[1],), reading[2])


# worths is a dict that tells the worth of each spot that the rule reads.
def worth_by_rule(rule, worths, wheel):
    told = {}
    for reading, spot in zip(rule[2], spots_read(rule)):
        told[reading] = worths[spot]
    return reckoned(rule[1], told, wheel)
