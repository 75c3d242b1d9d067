"""A formula reckoned, with a wheel or without one."""

from boughworth.formulas import READINGS, folded


def reckoned(formula, told, wheel):
    return folded(formula, lambda one, inner: rest_of(worth_of(one, told, inner), wheel))


def rest_of(number, wheel):
    return number % wheel if wheel > 0 else number


def worth_of(one, told, inner):
    kind = one[0]
    if kind == "num":
        return one[1]
    if kind in READINGS:
        return told[one]
    if kind == "when":
        return inner[1] if inner[0] == 0 else inner[2]
    return joined(kind, inner[0], inner[1])


def joined(kind, first, second):
    if kind == "plus":
        return first + second
    if kind == "less":
        return first - second
    if kind == "times":
        return first * second
    if kind == "least":
        return min(first, second)
    return max(first, second)
