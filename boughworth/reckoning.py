"""A formula reckoned, with a wheel or without one."""

from boughworth.formulas import READINGS, tuples_of


# Walked from the last tuple to the first, what stands within a tuple is reckoned ahead of it,
# and lies on top of the pile, its first formula uppermost.
def reckoned(formula, told, wheel):
    pile = []
    for one in reversed(tuples_of(formula)):
        pile.append(rest_of(worth_of(one, told, pile), wheel))
    return pile.pop()


def rest_of(number, wheel):
    return number % wheel if wheel > 0 else number


# Takes the worths of the formulas in the tuple off the pile.
def worth_of(one, told, pile):
    kind = one[0]
    if kind == "num":
        return one[1]
    if kind in READINGS:
        return told[one]
    first = pile.pop()
    second = pile.pop()
    if kind == "when":
        third = pile.pop()
        return second if first == 0 else third
    return joined(kind, first, second)


def joined(kind, first, second):
    if kind == "plus":
        return first + second
    if kind == "less":
        return first - second
    if kind == "times":
        return first * second
    if kind == "least":
        return min(first, second)
    return max(first, second)
