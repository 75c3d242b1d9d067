"""Plain books, and what the words of the document tell of them; several tests use it."""

import functools
import random

from example_books import all_spots, book_with, part
from example_trees import random_forms, worth_by_its_rule

PLAIN_KINDS_OF_TWO = ("plus", "less", "times")


def parts_read(formula):
    if formula[0] == "part":
        return {formula[1]}
    return set().union(*[parts_read(inner) for inner in formula[1:] if isinstance(inner, tuple)])


def random_plain_formula(chance, leaves, most):
    """No product has a part on both of its sides."""
    if most < 3 or chance.random() < 0.3:
        return chance.choice(leaves)
    kind = chance.choice(PLAIN_KINDS_OF_TWO)
    one = random_plain_formula(chance, leaves, (most - 1) // 2)
    fitting = leaves
    if kind == "times":
        fitting = [leaf for leaf in leaves if not parts_read(leaf) & parts_read(one)]
    return (kind, one, random_plain_formula(chance, fitting, (most - 1) // 2))


def plain_book(chance, sorts, heads, most=15, numbers=(-3, -2, -1, 0, 1, 2, 3)):
    """A random plain book; sorts have no downs."""
    ups = {name: own_ups for name, downs, own_ups in sorts}

    def formula_for(bare, form, key):
        leaves = [("num", chance.choice(numbers)), ("num", chance.choice(numbers))]
        leaves += [part(k, up) for k, sort in enumerate(form[2]) for up in ups[sort]]
        return random_plain_formula(chance, leaves, most)

    return book_with(0, sorts, heads, formula_for)


UPS = ((), ("x",), ("x", "y"), ("y", "z", "x"), ("u", "v", "w"))


def two_plain_books(seed, most=15, numbers=(-3, -2, -1, 0, 1, 2, 3), names=("a", "b", "c")):
    """Two random plain books of one build, which may have other worths."""
    chance = random.Random(seed)
    names = names[:chance.randrange(1, len(names) + 1)]
    heads = random_forms(chance, [(name,) for name in names])
    found = []
    for _ in range(2):
        sorts = tuple((name, (), chance.choice(UPS)) for name in names)
        found.append(plain_book(chance, sorts, heads, most, numbers))
    return found


def worths_by_the_words(book, tree):
    """From each spot to its worth; a plain book's ups read only ups beneath."""
    worths = {}
    for spot in sorted(all_spots(book, tree), key=lambda one: -len(one[0])):
        worths[spot] = worth_by_its_rule(book, tree, {}, spot, worths)
    return worths


@functools.lru_cache(maxsize=20000)
def row_by_the_words(one, other, tree):
    """Point 27: 1, all ups at the top by the one book, and by the other one."""
    told = (1,)
    for book in (one, other):
        worths = worths_by_the_words(book, tree)
        told += tuple(worths[spot] for spot in all_spots(book, tree) if spot[0] == ())
    return told
