"""Books whose rules read only own downs and parts' ups, and books made so.

A reading that the form itself has no rule for is an own down or a part's up: those, and no others, are straight.
"""

from boughworth.books import forms_of, formulas_by_key, key_of, rules_of, sorts_of, wheel_of
from boughworth.errors import Tangled, TooGreat
from boughworth.formulas import READINGS, folded, readings_of, tuples_of
from boughworth.rings import order_of

MOST_TUPLES_MADE = 400


def is_straight(book):
    for form in forms_of(book):
        if any([len(keys) > 0 for keys in keys_read_by_key(form).values()]):
            return False
    return True


# All forms are looked at for each refusal by itself, as one form's tangle goes ahead of another one's greatness.
def made_straight(book):
    orders = [order_of_keys(form) for form in forms_of(book)]
    for form, order in zip(forms_of(book), orders):
        need_few_tuples(form, order)
    forms = [form_made_straight(form, order) for form, order in zip(forms_of(book), orders)]
    return (wheel_of(book), sorts_of(book), tuple(forms))


def keys_read_by_key(form):
    formulas = formulas_by_key(form)
    found = {}
    for key, formula in formulas.items():
        read = [key_of(reading) for reading in readings_of(formula)]
        found[key] = [other for other in read if other in formulas]
    return found


# Each key stands behind those that its rule reads.
def order_of_keys(form):
    read = keys_read_by_key(form)
    order = order_of(read)
    if len(order) < len(read):
        raise Tangled(form[0])
    return order


# Counted by numbers alone: the formulas themselves might be too great to be made.
def need_few_tuples(form, order):
    formulas = formulas_by_key(form)
    sizes = {}
    for key in order:
        size = 0
        for one in tuples_of(formulas[key]):
            size += sizes.get(key_of(one), 1) if one[0] in READINGS else 1
        if size > MOST_TUPLES_MADE:
            raise TooGreat("a formula made straight would have too many tuples")
        sizes[key] = size


def form_made_straight(form, order):
    formulas = formulas_by_key(form)
    made = {}
    for key in order:
        made[key] = put_otherwise(formulas[key], made)
    rules = [rule[:2] + (made[rule[:2]],) for rule in rules_of(form)]
    return form[:3] + (tuple(rules),)


def put_otherwise(formula, made):
    return folded(formula, lambda one, inner: one_put_otherwise(one, inner, made))


def one_put_otherwise(one, inner, made):
    if one[0] in READINGS:
        return made.get(key_of(one), one)
    return one[:1] + tuple(inner) if inner else one
