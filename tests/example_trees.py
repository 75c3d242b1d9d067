"""Trees, and what the words of the document tell of them, as a second way to the same; several tests use it."""

import copy
import functools
import itertools
import random

from example_books import all_spots, book_with, due_keys, form_at, own, part, readable
from examples import KINDS_OF_TWO, expected, within


def trees_by_the_words(book, sort, size):
    """All trees of a sort of just so many places, each once."""
    made = []
    for name, own_sort, parts, rules in book[2]:
        if own_sort == sort:
            for sizes in shares(len(parts), size - 1):
                choices = [trees_by_the_words(book, one, many) for one, many in zip(parts, sizes)]
                made += [(name, inner) for inner in itertools.product(*choices)]
    return made


def shares(many, total):
    """All rows of so many numbers from 1 on that come to the total."""
    if many == 0:
        return [()] if total == 0 else []
    return [(first,) + rest for first in range(1, total + 1) for rest in shares(many - 1, total - first)]


def size(tree):
    return 1 + sum(size(inner) for inner in tree[1])


def fewest_places(book):
    """From each sort that has a tree to its fewest places; four sorts of at most three parts come to 40 at most."""
    found = {}
    for _ in range(5):
        for name, sort, parts, rules in book[2]:
            if all(one in found for one in parts):
                many = 1 + sum(found[one] for one in parts)
                found[sort] = min(many, found.get(sort, many))
    return found


def random_tree(chance, book, sort, most):
    """A tree of a grown sort, mostly of nearly so many places, or of more where there is none of so few."""
    least = fewest_places(book)
    forms = [form for form in book[2] if form[1] == sort and all(one in least for one in form[2])]
    fitting = [form for form in forms if 1 + sum(least[one] for one in form[2]) <= most]
    fitting = [form for form in fitting if form[2] and chance.random() < 0.97] or fitting
    form = chance.choice(fitting) if fitting else min(forms, key=lambda one: sum(least[inner] for inner in one[2]))
    left = most - 1 - sum(least[one] for one in form[2])
    inner = []
    for k, one in enumerate(form[2]):
        more = max(0, left if k == len(form[2]) - 1 else chance.randrange(left + 1) if left > 0 else 0)
        made = random_tree(chance, book, one, least[one] + more)
        left -= size(made) - least[one]
        inner.append(made)
    return (form[0], tuple(inner))


def readings_in_order(formula):
    """Each once, in the order in which they first stand there from left to right."""
    if formula[0] in ("own", "part"):
        return [formula]
    found = []
    for inner in formula[1:]:
        if isinstance(inner, tuple):
            found += [one for one in readings_in_order(inner) if one not in found]
    return found


def rule_of(book, tree, spot):
    """Point 15: the place of the form that tells the spot, and its formula; None for a down of the top."""
    place, word = spot
    ups = [sort[2] for sort in book[1] if sort[0] == form_at(book, tree, place)[1]][0]
    if word in ups:
        base, key = place, (-1, word)
    elif place == ():
        return None
    else:
        base, key = place[:-1], (place[-1], word)
    return base, [rule[2] for rule in form_at(book, tree, base)[3] if rule[:2] == key][0]


def spot_read(base, reading):
    return (base, reading[1]) if reading[0] == "own" else (base + (reading[1],), reading[2])


def read_by(book, tree, spot):
    """Point 15: the spots that a spot reads, in order."""
    rule = rule_of(book, tree, spot)
    return [spot_read(rule[0], reading) for reading in readings_in_order(rule[1])] if rule else []


def worth_by_its_rule(book, tree, given, spot, worths):
    """Point 17: what the rule tells of the worths that it reads."""
    rule = rule_of(book, tree, spot)
    if rule is None:
        return given[spot[1]] % book[0] if book[0] else given[spot[1]]
    told = {reading: worths[spot_read(rule[0], reading)] for reading in readings_in_order(rule[1])}
    return expected(rule[1], told, book[0])


def come_to(reads):
    """From each thing to the set of those that it comes to by one step of reading or more."""
    found = {}
    for start in reads:
        found[start], waiting = set(), list(reads[start])
        while waiting:
            one = waiting.pop()
            if one not in found[start]:
                found[start].add(one)
                waiting += reads[one]
    return found


def all_reads(book, tree):
    return {spot: read_by(book, tree, spot) for spot in all_spots(book, tree)}


def hanging(reads):
    """Those that stand in a ring or come to one that does."""
    reached = come_to(reads)
    within_ring = {one for one in reached if one in reached[one]}
    return {one for one in reached if one in within_ring or reached[one] & within_ring}


def is_ring_by_the_words(reads, ring):
    if not isinstance(ring, list) or not ring or len(set(ring)) != len(ring):
        return False
    return all(one in reads and other in reads[one] for one, other in zip(ring, ring[1:] + ring[:1]))


def is_order_by_the_words(reads, order):
    if not isinstance(order, list) or sorted(order) != sorted(reads):
        return False
    return all(other in order[:k] for k, one in enumerate(order) for other in reads[one])


def paper_looked_at(case, asked, by_the_words, book, paper, due):
    """What looks at papers says as told, as the words do, and changes nothing."""
    before = copy.deepcopy(paper)
    with case.subTest(paper=paper):
        case.assertIs(asked(book, paper), due)
        case.assertIs(by_the_words(book, paper), due)
        case.assertEqual(paper, before)


RANDOM_SORTS = (
    (("a", ("p", "q"), ("x", "y")), ("b", ("p",), ("z",))),
    (("a", ("p", "q", "r"), ("x", "y", "z")),),
    (("tree", ("d",), ("u", "v")), ("seed", (), ()), ("rank", (), ("u",)), ("husk", ("d", "e"), ())),
    (("a", ("p",), ("x",)), ("b", ("q",), ("y",)), ("c", ("r",), ("z",))),
)


def random_forms(chance, sorts):
    """Heads of forms: some sorts may have none, some forms may ask one another round."""
    names = [sort[0] for sort in sorts]
    heads = [("leaf", names[0], ())]
    for k in range(chance.randrange(1, 7)):
        many = chance.choice((0, 1, 1, 2, 2, 3))
        heads.append(("form" + "abcdefg"[k], chance.choice(names), tuple(chance.choice(names) for _ in range(many))))
    return tuple(heads)


def random_formula(chance, leaves, most):
    if most < 3 or chance.random() < 0.3:
        return chance.choice(leaves)
    if most > 3 and chance.random() < 0.2:
        return ("when",) + tuple(random_formula(chance, leaves, (most - 1) // 3) for _ in range(3))
    kind = chance.choice(KINDS_OF_TWO)
    return (kind,) + tuple(random_formula(chance, leaves, (most - 1) // 2) for _ in range(2))


def random_book(seed, ties=None):
    """A book with a wheel; the more ties, the more its rules read, and the more trees have rings."""
    chance = random.Random(seed)
    sorts = chance.choice(RANDOM_SORTS)
    ties = chance.choice((0.1, 0.3, 0.6, 1)) if ties is None else ties

    def formula_for(bare, form, key):
        keys = due_keys(bare, form)
        leaves = [("num", chance.randrange(-9, 10))]
        for one in readable(bare, form):
            bent = (-1, one[1]) if one[0] == "own" else one[1:]
            if chance.random() < (ties if bent not in keys or keys.index(bent) > keys.index(key) else ties / 4):
                leaves.append(one)
        return random_formula(chance, leaves, 15)

    return book_with(chance.choice((2, 7, 1000, 10 ** 30)), sorts, random_forms(chance, sorts), formula_for)


@functools.lru_cache(maxsize=None)
def books_with_trees(many, most):
    """Some books, each with a tree of each grown sort of at most so many places and numbers for its downs."""
    found = []
    for seed in range(many):
        chance, book = random.Random(seed), random_book(seed)
        for sort in fewest_places(book):
            tree = random_tree(chance, book, sort, most)
            downs = [one[1] for one in book[1] if one[0] == sort][0]
            found.append((book, tree, {down: chance.randrange(-10 ** 30 + 1, 10 ** 30) for down in downs}))
    return found


# In a tower the top's up z comes to all other ups, down to the end, and from there to all downs that have a rule.
LONG_SORTS = (("a", ("p", "q", "r"), ("x", "y", "z")),)
LONG_TOLD = {
    ("one", (-1, "x")): part(0, "z"), ("one", (-1, "y")): own("x"), ("one", (-1, "z")): own("y"),
    ("one", (0, "p")): own("r"), ("one", (0, "q")): part(0, "p"), ("one", (0, "r")): part(0, "q"),
    ("end", (-1, "x")): own("r"), ("end", (-1, "y")): own("x"), ("end", (-1, "z")): own("y"),
}


def long_book(told=(), wheel=10 ** 9):
    """Each rule adds 1 to what it reads; told tells other formulas."""
    told = dict(told)

    def formula_for(bare, form, key):
        formula = LONG_TOLD[(form[0], key)]
        return told.get((form[0], key), ("plus", formula, ("num", 1)))

    return book_with(wheel, LONG_SORTS, (("one", "a", ("a",)), ("end", "a", ())), formula_for)


def tower(places, one="one", end="end"):
    """A tree of so many places, each beneath the one ahead."""
    return within(places - 1, (end, ()), lambda inner: (one, (inner,)))
