"""Pricings of a book, and the cheapest tree of each sort.

A pricing names an up of each sort. By a priced book no tree is cheaper than one of its parts, as each part is read, and
numbers below 0 are not there.
"""

from boughworth.asking import worth_at
from boughworth.books import forms_of, formulas_by_key, parts_of, sort_of_form, sorts_of, wheel_of
from boughworth.errors import NoPrice
from boughworth.formulas import readings_of, tuples_of
from boughworth.growth import forms_that_live, grown_forms, least_sizes
from boughworth.reckoning import reckoned
from boughworth.trees import is_tree_of

PRICE_KINDS = ("num", "part", "plus", "most")


def is_priced(book, pricing):
    if wheel_of(book) != 0 or set(pricing) != set([sort[0] for sort in sorts_of(book)]):
        return False
    if not all([pricing[name] in ups for name, downs, ups in sorts_of(book)]):
        return False
    return all([is_priced_form(form, pricing) for form in forms_of(book)])


def is_priced_form(form, pricing):
    formula = price_formula(form, pricing)
    if set(readings_of(formula)) != set(price_readings(form, pricing)):
        return False
    return all([is_price_tuple(one) for one in tuples_of(formula)])


def price_formula(form, pricing):
    return formulas_by_key(form)[(-1, pricing[sort_of_form(form)])]


# One for each part.
def price_readings(form, pricing):
    return [("part", k, pricing[part]) for k, part in enumerate(parts_of(form))]


def is_price_tuple(one):
    return one[0] in PRICE_KINDS and (one[0] != "num" or one[1] >= 0)


def need_priced(book, pricing):
    if not is_priced(book, pricing):
        raise NoPrice("the book is not priced by this")


# A cheapest tree need have no sort twice on the way from its top inwards: the inner bough is no dearer than the outer
# one. So after as many rounds as there are sorts nothing grows cheaper, and the trees have forty places at most.
def cheapest(book, pricing):
    need_priced(book, pricing)
    told = {}
    before = None
    while told != before:
        before = told
        told = one_round_on(book, pricing, before)
    return told


# With trees one place higher than before, but only where they are cheaper.
def one_round_on(book, pricing, before):
    told = dict(before)
    prices = prices_of(before)
    for form in grown_forms(book, before):
        sort = sort_of_form(form)
        price = price_by_form(form, pricing, prices)
        if sort not in told or price < told[sort][0]:
            told[sort] = (price, (form[0], tuple([before[part][1] for part in parts_of(form)])))
    return told


def prices_of(told):
    prices = {}
    for sort, pair in told.items():
        prices[sort] = pair[0]
    return prices


def price_by_form(form, pricing, prices):
    worths = [prices[part] for part in parts_of(form)]
    return reckoned(price_formula(form, pricing), dict(zip(price_readings(form, pricing), worths)), 0)


def is_cheapest(book, pricing, told):
    need_priced(book, pricing)
    if set(told) != set(least_sizes(book)):
        return False
    if not all([has_price(book, pricing, sort, pair) for sort, pair in told.items()]):
        return False
    prices = prices_of(told)
    return all([price_by_form(form, pricing, prices) >= prices[sort_of_form(form)] for form in forms_that_live(book)])


def has_price(book, pricing, sort, pair):
    return is_tree_of(book, sort, pair[1]) and worth_at(book, pair[1], {}, ((), pricing[sort])) == pair[0]
