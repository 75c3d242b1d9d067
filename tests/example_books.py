"""Books and things that several tests use."""

from examples import ONE, expected, within


def own(word):
    return ("own", word)


def part(k, word):
    return ("part", k, word)


def sum_of(formulas):
    """Of so many formulas a chain of sums, one tuple for each but the first."""
    made = formulas[0]
    for formula in formulas[1:]:
        made = ("plus", made, formula)
    return made


# Wheel 0: no downs, no own.x, and no part is read on both sides of a product.
LEVEL_BOOK = (
    0,
    (("tree", (), ("size", "deep")), ("word", (), ("long",))),
    (
        ("leaf", "tree", ("word",), ((-1, "size", part(0, "long")), (-1, "deep", ("num", 0)))),
        ("join", "tree", ("tree", "tree"), (
            (-1, "size", ("plus", part(0, "size"), part(1, "size"))),
            (-1, "deep", ("plus", ("most", part(0, "deep"), part(1, "deep")), ONE)),
        )),
        ("ab", "word", (), ((-1, "long", ("num", 2)),)),
        ("more", "word", ("word",), ((-1, "long", ("times", part(0, "long"), ("num", 3))),)),
    ),
)

# Downs and ups, read across; part k's downs are read by their own rules, too.
ROW_BOOK = (
    1000003,
    (("row", ("from", "step"), ("to", "sum")), ("cell", ("at",), ("val",))),
    (
        ("none", "row", (), ((-1, "to", own("from")), (-1, "sum", ("num", 0)))),
        ("some", "row", ("cell", "row"), (
            (-1, "to", part(1, "to")),
            (-1, "sum", ("plus", part(0, "val"), part(1, "sum"))),
            (0, "at", own("from")),
            (1, "from", ("plus", part(0, "at"), part(1, "step"))),
            (1, "step", own("step")),
        )),
        ("same", "cell", (), ((-1, "val", own("at")),)),
        ("squared", "cell", (), ((-1, "val", ("times", own("at"), own("at"))),)),
    ),
)


def due_keys(book, form):
    """Point 8: for what a form tells rules, in order."""
    sorts = {name: (downs, ups) for name, downs, ups in book[1]}
    keys = [(-1, up) for up in sorts[form[1]][1]]
    for k, sort in enumerate(form[2]):
        keys += [(k, down) for down in sorts[sort][0]]
    return keys


def readable(book, form):
    """Point 9: all that the rules of a form may read."""
    sorts = {name: downs + ups for name, downs, ups in book[1]}
    found = [own(word) for word in sorts[form[1]]]
    for k, sort in enumerate(form[2]):
        found += [part(k, word) for word in sorts[sort]]
    return found


def book_with(wheel, sorts, heads, formula_for):
    """A book of forms (name, sort, parts), with formula_for(book, form, key) in each rule's place."""
    bare = (wheel, sorts, tuple(head + ((),) for head in heads))
    forms = []
    for form in bare[2]:
        rules = [key + (formula_for(bare, form, key),) for key in due_keys(bare, form)]
        forms.append(form[:3] + (tuple(rules),))
    return (wheel, sorts, tuple(forms))


FULL_SORTS = (
    ("a", ("p", "q", "r"), ("x", "y", "z")), ("b", (), ("p",)), ("c", ("x", "own"), ()), ("d", (), ()),
)
FULL_HEADS = tuple(
    (name, sort, parts) for name, (sort, parts) in zip("fghijklmno", (
        ("a", ("a", "a", "a")), ("a", ()), ("a", ("c", "b", "a")), ("b", ("a",)), ("b", ("d", "d")),
        ("c", ("c", "c", "c")), ("c", ()), ("d", ()), ("d", ("a", "c", "a")), ("d", ("d", "b")),
    ))
)


def full_book(wheel=10 ** 30):
    """Four sorts and ten forms, none to three parts, downs and ups; each rule has a number of its own."""
    count = [0]

    def formula_for(bare, form, key):
        count[0] += 1
        read = readable(bare, form)
        return ("plus", ("num", count[0]), read[count[0] % len(read)]) if read else ("num", count[0])

    return book_with(wheel, FULL_SORTS, FULL_HEADS, formula_for)


def changed(thing, path, new):
    """The thing of tuples within tuples, with another one at the path of numbers."""
    if not path:
        return new
    k = path[0]
    return thing[:k] + (changed(thing[k], path[1:], new),) + thing[k + 1:]


def found_at(thing, path):
    for k in path:
        thing = thing[k]
    return thing


def paths_of(thing):
    """The paths of the thing itself and of all that lies within it."""
    found = [()]
    if isinstance(thing, tuple):
        for k, inner in enumerate(thing):
            found += [(k,) + path for path in paths_of(inner)]
    return found


# Anything made of whole numbers, truths, None, texts, tuples, lists and dicts, that is neither a book nor a tree.
ODD_THINGS = [
    0, 1, -7, 10 ** 5000, True, False, None, "", "x", "leaf", "x" * 4000, [], [0, (), ()], ["leaf", ()], {}, {0: 0},
    {"leaf": ()}, {0: "leaf", 1: ()}, (), ((),), ((), ()), ((), (), ()), (0,), (None, None), (True, False, True),
    ([], [], []), ({}, {}, {}), (0, 0, 0), ("x", "x", "x"), (["leaf"], ()), ({"leaf": 0}, ()), (("leaf",), ()),
    [1] * 9999, (1,) * 9999, [[]] * 4999, dict.fromkeys(range(5000), 1), ONE, ("own", "x"),
]
WRAPS = [
    lambda inner: (inner,), lambda inner: [inner], lambda inner: {"leaf": inner}, lambda inner: ("leaf", inner),
    lambda inner: (inner, ()), lambda inner: (0, inner, ()), lambda inner: (0, (), inner), lambda inner: (inner, (), ()),
]
DEEP_THINGS = [within(199, core, wrap) for core in ((), [], {}, None, 0, "x") for wrap in WRAPS]


def worth(book, tree, given, spot, above=()):
    """What the rules tell of a spot (place, word), by plain reading on; None where it hangs on a ring."""
    if spot in above:
        return None
    place, word = spot
    form = form_at(book, tree, place)
    ups = [sort[2] for sort in book[1] if sort[0] == form[1]][0]
    if word in ups:
        base, key = place, (-1, word)
    elif place == ():
        return given[word] % book[0] if book[0] else given[word]
    else:
        base, key = place[:-1], (place[-1], word)
    formula = [rule[2] for rule in form_at(book, tree, base)[3] if rule[:2] == key][0]
    told = {}
    for reading in readings(formula):
        read = (base, reading[1]) if reading[0] == "own" else (base + (reading[1],), reading[2])
        told[reading] = worth(book, tree, given, read, above + (spot,))
    return None if None in told.values() else expected(formula, told, book[0])


def form_at(book, tree, place):
    for k in place:
        tree = tree[1][k]
    return [form for form in book[2] if form[0] == tree[0]][0]


def readings(formula):
    if formula[0] in ("own", "part"):
        return {formula}
    return set().union(*[readings(inner) for inner in formula[1:]]) if formula[0] != "num" else set()


def all_spots(book, tree, place=()):
    form = form_at(book, tree, place)
    words = [sort[1] + sort[2] for sort in book[1] if sort[0] == form[1]][0]
    bough = tree
    for k in place:
        bough = bough[1][k]
    found = [(place, word) for word in words]
    for k in range(len(bough[1])):
        found += all_spots(book, tree, place + (k,))
    return found
