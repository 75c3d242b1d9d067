"""Formulas and things that several tests use."""

KINDS_OF_TWO = ("plus", "less", "times", "least", "most")

X = ("own", "x")
Y = ("part", 0, "y")
ONE = ("num", 1)

NO_WORDS = [
    "", "abcdefghi", "X", "aB", "x1", "7", "x y", " x", "x ", " ", "x.y", "x_", "-", "x\n", "\u00e9", "\u03b1",
    None, True, 0, (), ("x",), ["x"], {"x": "x"},
]

ONE_OF_EACH_KIND = [
    ("num", 7),
    ("own", "x"),
    ("part", 1, "y"),
    ("plus", X, Y),
    ("less", X, Y),
    ("times", X, Y),
    ("least", X, Y),
    ("most", X, Y),
    ("when", X, Y, ONE),
]


def chain(size, kind="plus", leaf=ONE):
    """A formula of just so many tuples (1, 3 or more), grown to the left, as deep as can be."""
    formula, left = (leaf, size - 1) if size % 2 else (("when", leaf, leaf, leaf), size - 4)
    while left > 0:
        formula, left = (kind, formula, leaf), left - 2
    return formula


def chain_to_the_right(size, kind="plus", leaf=ONE):
    """The like of an odd number of tuples, grown to the right."""
    formula = leaf
    for _ in range(size // 2):
        formula = (kind, leaf, formula)
    return formula


def within(depth, thing, wrap):
    """The thing, wrapped so many times."""
    for _ in range(depth):
        thing = wrap(thing)
    return thing


def expected(formula, told, wheel):
    """Point 6 word by word, as a second way to the same number."""
    def rest(number):
        return number % wheel if wheel else number

    kind = formula[0]
    if kind == "num":
        return rest(formula[1])
    if kind in ("own", "part"):
        return rest(told[formula])
    worths = [expected(inner, told, wheel) for inner in formula[1:]]
    return rest({
        "plus": lambda: worths[0] + worths[1],
        "less": lambda: worths[0] - worths[1],
        "times": lambda: worths[0] * worths[1],
        "least": lambda: sorted(worths)[0],
        "most": lambda: sorted(worths)[-1],
        "when": lambda: worths[1] if worths[0] == 0 else worths[2],
    }[kind]())


def formulas_up_to(rounds, leaves):
    """Formulas of every kind over those of the round before, some thousand at most."""
    found = list(leaves)
    for _ in range(rounds):
        base = found[::max(1, len(found) // 12)]
        made = [(kind, a, b) for kind in KINDS_OF_TWO for a in base for b in base]
        made += [("when", a, b, c) for a in base for b in base for c in base[:3]]
        found = list(leaves) + made
    return found


def written(formula):
    """Point 7 word by word, as a second way to the same text."""
    kind = formula[0]
    if kind == "num":
        return str(formula[1])
    if kind == "own":
        return f"own.{formula[1]}"
    if kind == "part":
        return f"{formula[1]}.{formula[2]}"
    inner = [written(one) for one in formula[1:]]
    if kind == "when":
        return f"({inner[0]} ? {inner[1]} : {inner[2]})"
    sign = {"plus": "+", "less": "-", "times": "*", "least": "min", "most": "max"}[kind]
    return f"({inner[0]} {sign} {inner[1]})"
