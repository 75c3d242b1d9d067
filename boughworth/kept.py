"""A tree that is kept with its worths: boughs are put, numbers are given, changes are taken back, and only what must be
is reckoned anew.
"""

from boughworth.asking import is_given_number, worths_of
from boughworth.books import wheel_of
from boughworth.errors import NoChange, NoGiven, Ring, TooGreat
from boughworth.reckoning import rest_of
from boughworth.rings import order_of, ring_in
from boughworth.spots import need_spot, reads_by_spot, rules_by_spot, spots_read, worth_by_rule
from boughworth.trees import MOST_PLACES, bough_at, places_of, put_at


class Kept:

    # causes tells of each spot that the last change reckoned anew because of which other one that was, None of a new
    # one. stack has for each change that is not taken back the tree and the numbers ahead of it, and the spots that are
    # new when it is taken back.
    def __init__(self, book, tree, given):
        told = worths_of(book, tree, given)
        if told[0] == "ring":
            raise Ring(told[1])
        self.book = book
        self.whole = tree
        self.numbers = dict(given)
        self.known = told[1]
        self.causes = {}
        self.stack = []

    def put(self, place, bough):
        made = put_at(self.book, self.whole, place, bough)
        if len(places_of(made)) > MOST_PLACES:
            raise TooGreat("more than sixty places would come of it")
        ahead = (self.whole, self.numbers, new_spots(self.book, place, bough_at(self.whole, place)))
        anew = self.change(made, self.numbers, new_spots(self.book, place, bough))
        self.stack.append(ahead)
        return anew

    def give(self, word, number):
        if word not in self.numbers or not is_given_number(number):
            raise NoGiven("this is no down of the top, or no whole number of at most thirty figures")
        ahead = (self.whole, self.numbers, {})
        numbers = dict(self.numbers)
        numbers[word] = number
        anew = self.change(self.whole, numbers, {})
        self.stack.append(ahead)
        return anew

    def back(self):
        if not self.stack:
            raise NoChange("no change is left to be taken back")
        ahead = self.stack.pop()
        return self.change(ahead[0], ahead[1], ahead[2])

    def tree(self):
        return self.whole

    def given(self):
        return dict(self.numbers)

    def worth(self, spot):
        need_spot(self.known, spot)
        return self.known[spot]

    def worths(self):
        return dict(self.known)

    def why(self, spot):
        need_spot(self.known, spot)
        if spot not in self.causes:
            return None
        way = [spot]
        while self.causes.get(way[-1]) is not None:
            way.append(self.causes[way[-1]])
        return way[::-1]

    # Refused ahead of the first thing that is stored.
    def change(self, tree, numbers, new):
        rules = rules_by_spot(self.book, tree)
        reads = reads_by_spot(rules)
        ring = ring_in(reads)
        if ring is not None:
            raise Ring(ring)
        worths = {}
        for down, number in numbers.items():
            worths[((), down)] = rest_of(number, wheel_of(self.book))
        told = [(spot, rules[spot]) for spot in order_of(reads) if rules[spot] is not None]
        self.causes = reckoned_anew(told, new, self.known, worths, wheel_of(self.book))
        self.whole = tree
        self.numbers = numbers
        self.known = worths
        return list(self.causes)


# Those that have their rules within the bough, by the names that they have in the whole tree.
def new_spots(book, place, bough):
    new = {}
    for spot, rule in rules_by_spot(book, bough).items():
        if rule is not None:
            new[(place + spot[0], spot[1])] = True
    return new


# told has the spots with their rules, each behind those that it reads, so whether what it reads has another worth than
# it had, by known, is settled when its turn comes. worths has the downs of the top alone and is filled here.
def reckoned_anew(told, new, known, worths, wheel):
    causes = {}
    for spot, rule in told:
        unlike = [other for other in spots_read(rule) if worths[other] != known.get(other)]
        if spot in new:
            causes[spot] = None
        elif unlike:
            causes[spot] = unlike[0]
        worths[spot] = worth_by_rule(rule, worths, wheel) if spot in causes else known[spot]
    return causes
