"""What a formula is, how many tuples it has, and what it reads.

Nothing here calls itself: formulas of books made straight may lie two hundred tuples within one another.
"""

from boughworth.kinds import is_whole_within, is_word

MOST_TUPLES = 15
MOST_NUM = 999999
MOST_PART = 2
READINGS = ("own", "part")
# How many formulas stand in a tuple of each kind that has any.
INNER_COUNTS = {"plus": 2, "less": 2, "times": 2, "least": 2, "most": 2, "when": 3}


# Stops at the first tuple too many, so it takes few steps however great the thing is.
def is_formula(thing):
    waiting = [thing]
    seen = 0
    while waiting:
        one = waiting.pop()
        if seen == MOST_TUPLES or not is_head(one):
            return False
        seen += 1
        waiting.extend(inner_of(one))
    return True


# Whether it is made as told but for the formulas in it, which may still be anything.
def is_head(thing):
    if not isinstance(thing, tuple) or len(thing) == 0:
        return False
    kind = thing[0]
    if not isinstance(kind, str):
        return False
    if kind in INNER_COUNTS:
        return len(thing) == 1 + INNER_COUNTS[kind]
    if kind == "num":
        return len(thing) == 2 and is_whole_within(thing[1], -MOST_NUM, MOST_NUM)
    if kind == "own":
        return len(thing) == 2 and is_word(thing[1])
    if kind == "part":
        return len(thing) == 3 and is_whole_within(thing[1], 0, MOST_PART) and is_word(thing[2])
    return False


def inner_of(formula):
    return formula[1:] if formula[0] in INNER_COUNTS else ()


# A tuple stands ahead of those in it, these from left to right, each as often as it is there.
def tuples_of(formula):
    found = []
    waiting = [formula]
    while waiting:
        one = waiting.pop()
        found.append(one)
        waiting.extend(inner_of(one)[::-1])
    return found


# tell is called of each tuple, with the list of what it told of the formulas in it, these from left to right.
# Walked from the last tuple to the first, these lie on top of the pile by then, the first one uppermost.
def folded(formula, tell):
    pile = []
    for one in reversed(tuples_of(formula)):
        inner = [pile.pop() for number in range(len(inner_of(one)))]
        pile.append(tell(one, inner))
    return pile.pop()


def size_of(formula):
    return len(tuples_of(formula))


def readings_of(formula):
    found = {}
    for one in tuples_of(formula):
        if one[0] in READINGS:
            found[one] = True
    return list(found)
