"""Point 16: rings and whole orders looked at."""

import itertools
import random
import unittest

from boughworth.asking import worths_of
from boughworth.orders import is_order, is_ring
from boughworth.straight import made_straight
from example_books import LEVEL_BOOK, ROW_BOOK, all_spots, book_with, own, part
from example_trees import (
    all_reads, books_with_trees, is_order_by_the_words, is_ring_by_the_words, long_book, tower,
)
from examples import ONE

# At the leaf g: x reads itself; y and z read one another, and w reads both rings and d.
SORTS = (("a", ("d",), ("x", "y", "z")), ("b", (), ("w",)))
TOLD = {
    ("g", (-1, "x")): ("plus", own("x"), own("d")), ("g", (-1, "y")): own("z"),
    ("g", (-1, "z")): ("plus", own("d"), own("y")),
    ("f", (-1, "w")): ("plus", part(0, "x"), ("plus", part(0, "y"), part(0, "d"))), ("f", (0, "d")): part(1, "w"),
    ("h", (-1, "w")): ONE,
}
BOOK = book_with(9, SORTS, (("g", "a", ()), ("f", "b", ("a", "b")), ("h", "b", ())),
                 lambda bare, form, key: TOLD[(form[0], key)])
TREE = ("f", (("g", ()), ("h", ())))
X, Y, Z, D, W = ((0,), "x"), ((0,), "y"), ((0,), "z"), ((0,), "d"), ((), "w")

# Six worths of the part read one another round, and t comes to them.
ROUND_SORTS = (("a", ("p", "q", "r"), ("x", "y", "z")), ("top", (), ("t",)))
ROUND_TOLD = {
    ("round", (-1, "t")): part(0, "p"), ("round", (0, "p")): part(0, "x"), ("round", (0, "q")): part(0, "y"),
    ("round", (0, "r")): part(0, "z"), ("leaf", (-1, "x")): own("q"), ("leaf", (-1, "y")): own("r"),
    ("leaf", (-1, "z")): own("p"),
}
ROUND_BOOK = book_with(9, ROUND_SORTS, (("round", "top", ("a",)), ("leaf", "a", ())),
                       lambda bare, form, key: ROUND_TOLD[(form[0], key)])
ROUND_TREE = ("round", (("leaf", ()),))
SIX = [((0,), word) for word in "pxqyrz"]

NO_SPOTS = [
    ((), "nowhere"), ((), ""), ((5,), "x"), ((-1,), "x"), ((0, 0), "x"), ((0,), "w"), ((), "x"), ((0,) * 900, "x"),
]

ROW_TREE = ("some", (("same", ()), ("some", (("squared", ()), ("none", ())))))
ROW_GIVEN = {"from": 3, "step": 4}


class IsRingTest(unittest.TestCase):

    def yes(self, spots, book=BOOK, tree=TREE):
        self.assertIs(is_ring(book, tree, spots), True)

    def no(self, spots, book=BOOK, tree=TREE):
        self.assertIs(is_ring(book, tree, spots), False)

    def test_of_one_spot(self):
        self.yes([X])
        for spot in (Y, Z, D, W, ((1,), "w")):
            self.no([spot])

    def test_of_two(self):
        self.yes([Y, Z])
        self.yes([Z, Y])
        for pair in itertools.permutations([X, Y, Z, D, W, ((1,), "w")], 2):
            if pair not in ((Y, Z), (Z, Y)):
                self.no(list(pair))

    def test_of_many_turned_about(self):
        for k in range(6):
            self.yes(SIX[k:] + SIX[:k], ROUND_BOOK, ROUND_TREE)

    def test_another_order_of_the_same(self):
        for order in itertools.permutations(SIX):
            turned = list(order)[order.index(SIX[0]):] + list(order)[:order.index(SIX[0])]
            self.assertIs(is_ring(ROUND_BOOK, ROUND_TREE, list(order)), turned == SIX)

    def test_one_left_out_or_more(self):
        for k in range(6):
            self.no(SIX[:k] + SIX[k + 1:], ROUND_BOOK, ROUND_TREE)
            self.no(SIX[:k], ROUND_BOOK, ROUND_TREE)
            self.no(SIX[:k] + [((), "t")] + SIX[k:], ROUND_BOOK, ROUND_TREE)
            for spot in NO_SPOTS:
                self.no(SIX[:k] + [spot] + SIX[k:], ROUND_BOOK, ROUND_TREE)
                self.no(SIX[:k] + [spot] + SIX[k + 1:], ROUND_BOOK, ROUND_TREE)

    def test_a_spot_twice(self):
        self.no([X, X])
        self.no([X] * 3)
        self.no([Y, Z, Y, Z])
        self.no(SIX + SIX, ROUND_BOOK, ROUND_TREE)
        self.no(SIX + SIX[:1], ROUND_BOOK, ROUND_TREE)

    def test_two_rings_are_none(self):
        self.no([X, Y, Z])
        self.no([Y, Z, X])
        self.no([W, X])
        self.no([W, Y, Z])

    def test_none_and_no_spots(self):
        self.no([])
        self.no([], ROW_BOOK, ROW_TREE)
        for spot in NO_SPOTS:
            self.no([spot])
            self.no([spot, spot])
            self.no([X, spot])
            self.no([spot, X])
            self.no([Y, spot, Z])
        self.no([((k,), "x") for k in range(1000)])

    def test_read_backwards_it_is_none(self):
        self.no(SIX[::-1], ROUND_BOOK, ROUND_TREE)

    def test_what_is_told_is_a_ring(self):
        rings = 0
        for book, tree, given in books_with_trees(100, 14):
            told = worths_of(book, tree, given)
            if told[0] == "ring":
                rings += 1
                ring = told[1]
                before = list(ring)
                self.yes(ring, book, tree)
                self.yes(ring[1:] + ring[:1], book, tree)
                self.no(ring + [ring[0]], book, tree)
                self.assertEqual(ring, before)
            else:
                for spot in all_spots(book, tree):
                    self.no([spot], book, tree)
        self.assertGreater(rings, 20)

    def test_as_the_words_tell(self):
        chance = random.Random(5)
        found = 0
        for book, tree, given in books_with_trees(150, 6):
            reads = all_reads(book, tree)
            for _ in range(15):
                spots = []
                while len(spots) < 6 and reads and (not spots or spots[-1] not in spots[:-1]):
                    read = reads[spots[-1]] if spots and chance.random() < 0.95 else None
                    spots.append(chance.choice(read or list(reads)))
                if chance.random() < 0.7:
                    spots = spots[spots.index(spots[-1]):-1] if spots else []
                due = is_ring_by_the_words(reads, spots)
                found += due
                self.assertIs(is_ring(book, tree, spots), due)
        self.assertGreater(found, 50)


class IsOrderTest(unittest.TestCase):

    def yes(self, spots, book=ROW_BOOK, tree=ROW_TREE):
        self.assertIs(is_order(book, tree, spots), True)

    def no(self, spots, book=ROW_BOOK, tree=ROW_TREE):
        self.assertIs(is_order(book, tree, spots), False)

    def told(self):
        return worths_of(ROW_BOOK, ROW_TREE, ROW_GIVEN)[2]

    def test_the_told_one(self):
        order = self.told()
        self.yes(order)
        self.assertEqual(order, self.told())
        self.yes(worths_of(long_book(), tower(60), {"p": 0, "q": 0, "r": 0})[2], long_book(), tower(60))

    def test_others_that_are_whole(self):
        """Those that read none may go first or last as they please, as long as none reads them ahead."""
        order = self.told()
        lone = ((1, 1), "sum")
        rest = [spot for spot in order if spot != lone]
        first_reader = rest.index(((1,), "sum"))
        for k in range(len(rest) + 1):
            self.assertIs(is_order(ROW_BOOK, ROW_TREE, rest[:k] + [lone] + rest[k:]), k <= first_reader)

    def test_all_orders_of_few_spots(self):
        tree = ("some", (("same", ()), ("none", ())))
        reads = all_reads(ROW_BOOK, tree)
        chance = random.Random(3)
        spots = list(reads)
        for _ in range(500):
            chance.shuffle(spots)
            self.assertIs(is_order(ROW_BOOK, tree, spots), is_order_by_the_words(reads, spots))
        small = ("same", ())
        for order in itertools.permutations(all_spots(ROW_BOOK, small)):
            self.assertIs(is_order(ROW_BOOK, small, list(order)), order == (((), "at"), ((), "val")))

    def test_two_changed_about(self):
        order, reads = self.told(), all_reads(ROW_BOOK, ROW_TREE)
        seen = set()
        for one, other in itertools.combinations(range(len(order)), 2):
            turned = list(order)
            turned[one], turned[other] = turned[other], turned[one]
            due = is_order_by_the_words(reads, turned)
            seen.add(due)
            self.assertIs(is_order(ROW_BOOK, ROW_TREE, turned), due)
        self.assertEqual(seen, {True, False})

    def test_one_missing(self):
        order = self.told()
        for k in range(len(order)):
            self.no(order[:k] + order[k + 1:])
            self.no(order[:k])

    def test_one_twice(self):
        order = self.told()
        for k, spot in enumerate(order):
            self.no(order + [spot])
            self.no([spot] + order)
            self.no(order[:k] + [spot] + order[k:])
            self.no(order[:k] + [order[0]] + order[k + 1:] if k else order * 2)

    def test_tuples_that_are_no_spots(self):
        order = self.told()
        for k in range(len(order) + 1):
            for spot in NO_SPOTS:
                self.no(order[:k] + [spot] + order[k:])
                self.no(order[:k] + [spot] + order[k + 1:])

    def test_none(self):
        self.no([])
        bare = book_with(0, (("a", (), ()),), (("f", "a", ("a",)), ("g", "a", ())), lambda bare, form, key: ONE)
        for tree in (("g", ()), tower(60, "f", "g")):
            self.yes([], bare, tree)
            self.no([((), "x")], bare, tree)
        self.no([], LEVEL_BOOK, ("ab", ()))
        self.yes([((), "long")], LEVEL_BOOK, ("ab", ()))

    def test_no_order_where_there_is_a_ring(self):
        for order in itertools.permutations([W, X, Y, Z, D, ((1,), "w")]):
            self.no(list(order), BOOK, TREE)
        kind, ring, worths = worths_of(BOOK, TREE, {})
        self.assertEqual(kind, "ring")
        self.no(list(worths), BOOK, TREE)

    def test_by_books_made_straight(self):
        """What reads less has more orders: an order of the book need not be one of the other, but each has its own."""
        made = made_straight(ROW_BOOK)
        order = worths_of(made, ROW_TREE, ROW_GIVEN)[2]
        self.assertIs(is_order(made, ROW_TREE, order), True)
        self.assertIs(is_order(ROW_BOOK, ROW_TREE, order), is_order_by_the_words(all_reads(ROW_BOOK, ROW_TREE), order))

    def test_many_trees(self):
        seen = 0
        for book, tree, given in books_with_trees(100, 14):
            told = worths_of(book, tree, given)
            if told[0] == "worths":
                seen += 1
                self.yes(told[2], book, tree)
                turned = told[2][::-1]
                self.assertIs(is_order(book, tree, turned), is_order_by_the_words(all_reads(book, tree), turned))
        self.assertGreater(seen, 30)


if __name__ == "__main__":
    unittest.main()
