"""What a book is, why a thing is no book, and where in a book its sorts, forms and rules are found."""

from boughworth.errors import NoBook
from boughworth.formulas import is_formula, readings_of, tuples_of
from boughworth.kinds import is_whole, is_whole_within, is_word

MOST_SORTS = 4
MOST_WORTHS = 3
MOST_FORMS = 10
MOST_PARTS = 3


# Each look needs what those ahead of it have seen to: behind the first one the thing is made like a book.
def why_no_book(thing):
    if not has_shape(thing):
        return "shape"
    if not has_names(thing):
        return "names"
    if not all([keys_of(form) == due_keys(thing, form) for form in forms_of(thing)]):
        return "rules"
    if not all([has_formulas(thing, form) for form in forms_of(thing)]):
        return "formula"
    if wheel_of(thing) == 0 and not is_level(thing):
        return "wheel"
    return None


def need_book(thing):
    fault = why_no_book(thing)
    if fault is not None:
        raise NoBook(fault)


def rule_at(book, form, at, word):
    return formulas_by_key(form_named(book, form))[(at, word)]


def wheel_of(book):
    return book[0]


def sorts_of(book):
    return book[1]


def forms_of(book):
    return book[2]


def sort_named(book, name):
    return [sort for sort in sorts_of(book) if sort[0] == name][0]


def form_named(book, name):
    return [form for form in forms_of(book) if form[0] == name][0]


def downs_of(book, sort):
    return sort_named(book, sort)[1]


def ups_of(book, sort):
    return sort_named(book, sort)[2]


def worths_of_sort(book, sort):
    return downs_of(book, sort) + ups_of(book, sort)


def sort_of_form(form):
    return form[1]


def parts_of(form):
    return form[2]


def rules_of(form):
    return form[3]


# By its key, at and word, a rule is known within its form.
def keys_of(form):
    return [rule[:2] for rule in rules_of(form)]


# The key of the rule by which the form itself would tell what is read.
def key_of(reading):
    return (-1, reading[1]) if reading[0] == "own" else (reading[1], reading[2])


# The sort of the tree that the form makes, at -1, or of one of its parts.
def sort_at(form, at):
    return sort_of_form(form) if at == -1 else parts_of(form)[at]


def formulas_by_key(form):
    found = {}
    for at, word, formula in rules_of(form):
        found[(at, word)] = formula
    return found


def due_keys(book, form):
    due = [(-1, up) for up in ups_of(book, sort_of_form(form))]
    for k, part in enumerate(parts_of(form)):
        due.extend([(k, down) for down in downs_of(book, part)])
    return due


def has_shape(thing):
    if not is_row(thing, 3, 3) or not is_wheel(wheel_of(thing)):
        return False
    if not is_row(sorts_of(thing), 1, MOST_SORTS) or not is_row(forms_of(thing), 1, MOST_FORMS):
        return False
    sorts_are_made = all([has_sort_shape(sort) for sort in sorts_of(thing)])
    return sorts_are_made and all([has_form_shape(form) for form in forms_of(thing)])


def is_row(thing, fewest, most):
    return isinstance(thing, tuple) and fewest <= len(thing) <= most


def is_row_of_words(thing, most):
    return is_row(thing, 0, most) and all([is_word(one) for one in thing])


def is_wheel(thing):
    return is_whole_within(thing, 0, 10 ** 30) and thing != 1


def has_sort_shape(thing):
    if not is_row(thing, 3, 3) or not is_word(thing[0]):
        return False
    return is_row_of_words(thing[1], MOST_WORTHS) and is_row_of_words(thing[2], MOST_WORTHS)


def has_form_shape(thing):
    if not is_row(thing, 4, 4) or not is_word(thing[0]) or not is_word(sort_of_form(thing)):
        return False
    if not is_row_of_words(parts_of(thing), MOST_PARTS) or not isinstance(rules_of(thing), tuple):
        return False
    return all([has_rule_shape(rule) for rule in rules_of(thing)])


def has_rule_shape(thing):
    return is_row(thing, 3, 3) and is_whole(thing[0]) and is_word(thing[1])


def has_names(book):
    names = [sort[0] for sort in sorts_of(book)]
    if not are_unlike(names) or not are_unlike([form[0] for form in forms_of(book)]):
        return False
    if not all([are_unlike(downs + ups) for name, downs, ups in sorts_of(book)]):
        return False
    for form in forms_of(book):
        if sort_of_form(form) not in names or not all([part in names for part in parts_of(form)]):
            return False
    return True


def are_unlike(words):
    return len(set(words)) == len(words)


def has_formulas(book, form):
    for formula in formulas_by_key(form).values():
        if not is_formula(formula):
            return False
        if not all([is_told(book, form, reading) for reading in readings_of(formula)]):
            return False
    return True


def is_told(book, form, reading):
    key = key_of(reading)
    return key[0] < len(parts_of(form)) and key[1] in worths_of_sort(book, sort_at(form, key[0]))


def is_level(book):
    if any([len(downs) > 0 for name, downs, ups in sorts_of(book)]):
        return False
    for form in forms_of(book):
        if not all([is_level_formula(formula) for formula in formulas_by_key(form).values()]):
            return False
    return True


def is_level_formula(formula):
    for one in tuples_of(formula):
        if one[0] == "own":
            return False
        if one[0] == "times" and any([k in parts_read(one[2]) for k in parts_read(one[1])]):
            return False
    return True


def parts_read(formula):
    return [reading[1] for reading in readings_of(formula) if reading[0] == "part"]
