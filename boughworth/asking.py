"""The worths of one tree, with an order in which they can be reckoned, or a ring in which they wait for one another."""

from boughworth.books import downs_of, wheel_of
from boughworth.errors import NoGiven, Ring
from boughworth.kinds import is_whole_within
from boughworth.reckoning import rest_of
from boughworth.rings import order_of, reads_from, ring_from, ring_in
from boughworth.spots import need_spot, reads_by_spot, rules_by_spot, worth_by_rule
from boughworth.trees import sort_of


def worth_at(book, tree, given, spot):
    need_given(book, tree, given)
    rules = rules_by_spot(book, tree)
    need_spot(rules, spot)
    reads = reads_from(reads_by_spot(rules), spot)
    order = order_of(reads)
    if spot not in order:
        raise Ring(ring_from(reads, spot))
    return worths_in_order(book, rules, given, order)[spot]


def worths_of(book, tree, given):
    need_given(book, tree, given)
    rules = rules_by_spot(book, tree)
    reads = reads_by_spot(rules)
    order = order_of(reads)
    worths = worths_in_order(book, rules, given, order)
    if len(order) == len(reads):
        return ("worths", worths, order)
    return ("ring", ring_in(reads), worths)


def need_given(book, tree, given):
    if set(given) != set(downs_of(book, sort_of(book, tree))):
        raise NoGiven("not just the downs of the top are given")
    if not all([is_given_number(number) for number in given.values()]):
        raise NoGiven("what is given is no whole number of at most thirty figures")


def is_given_number(thing):
    return is_whole_within(thing, 1 - 10 ** 30, 10 ** 30 - 1)


def worths_in_order(book, rules, given, order):
    wheel = wheel_of(book)
    worths = {}
    for spot in order:
        if rules[spot] is None:
            worths[spot] = rest_of(given[spot[1]], wheel)
        else:
            worths[spot] = worth_by_rule(rules[spot], worths, wheel)
    return worths
