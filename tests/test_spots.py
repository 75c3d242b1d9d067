"""Point 15: the spots of a tree, and what a spot reads."""

import itertools
import unittest

from boughworth.errors import BoughError, NoSpot
from boughworth.spots import reads_at, spots_of
from boughworth.straight import made_straight
from example_books import LEVEL_BOOK, ROW_BOOK, all_spots, book_with, own, part, sum_of
from example_trees import books_with_trees, long_book, read_by, tower
from examples import ONE, chain

ROW_TREE = ("some", (("same", ()), ("some", (("squared", ()), ("none", ())))))

# Every kind of reading: an up that reads all around it, a down of each part that reads all around it.
SORTS = (("a", ("p", "q"), ("x", "y")), ("b", ("d",), ("u",)), ("bare", (), ()))
AROUND = [
    part(1, "u"), own("q"), part(0, "y"), own("x"), part(0, "p"), own("y"), part(1, "d"), own("p"),
]
HEADS = (("f", "a", ("a", "b", "bare")), ("g", "a", ()), ("h", "b", ("bare",)), ("i", "bare", ("a",)), ("j", "bare", ()))


def around_book():
    def formula_for(bare, form, key):
        return sum_of(AROUND) if form[0] == "f" else ONE

    return book_with(97, SORTS, HEADS, formula_for)


BOOK = around_book()
G, H, J = ("g", ()), ("h", (("j", ()),)), ("j", ())
TREE = ("f", (("f", (G, H, J)), H, ("i", (G,))))


class SpotsTest(unittest.TestCase):

    def test_place_by_place_downs_ahead_of_ups(self):
        self.assertEqual(spots_of(ROW_BOOK, ROW_TREE), [
            ((), "from"), ((), "step"), ((), "to"), ((), "sum"),
            ((0,), "at"), ((0,), "val"),
            ((1,), "from"), ((1,), "step"), ((1,), "to"), ((1,), "sum"),
            ((1, 0), "at"), ((1, 0), "val"),
            ((1, 1), "from"), ((1, 1), "step"), ((1, 1), "to"), ((1, 1), "sum"),
        ])

    def test_in_the_sorts_order_not_the_letters(self):
        sorts = (("s", ("z", "a"), ("y", "b")),)
        book = book_with(2, sorts, (("f", "s", ()),), lambda bare, form, key: ONE)
        self.assertEqual(spots_of(book, ("f", ())), [((), "z"), ((), "a"), ((), "y"), ((), "b")])

    def test_a_sort_without_worths(self):
        self.assertEqual(spots_of(BOOK, J), [])
        self.assertEqual(spots_of(BOOK, ("i", (G,))), [((0,), word) for word in "pqxy"])
        self.assertEqual(
            spots_of(BOOK, TREE),
            [((), word) for word in "pqxy"] + [((0,), word) for word in "pqxy"] + [((0, 0), word) for word in "pqxy"]
            + [((0, 1), "d"), ((0, 1), "u"), ((1,), "d"), ((1,), "u")] + [((2, 0), word) for word in "pqxy"])

    def test_sixty_places(self):
        due = [((0,) * many, word) for many in range(60) for word in "pqrxyz"]
        self.assertEqual(spots_of(long_book(), tower(60)), due)
        self.assertEqual(len(due), 360)

    def test_as_the_words_tell(self):
        for book, tree, given in books_with_trees(60, 25):
            told = spots_of(book, tree)
            self.assertIsInstance(told, list)
            self.assertEqual(told, all_spots(book, tree))

    def test_a_told_list_that_was_changed_changes_nothing(self):
        told = spots_of(ROW_BOOK, ROW_TREE)
        before = list(told)
        told.clear()
        self.assertEqual(spots_of(ROW_BOOK, ROW_TREE), before)


class ReadsTest(unittest.TestCase):

    def reads(self, spot, due, book=BOOK, tree=TREE):
        told = reads_at(book, tree, spot)
        self.assertIsInstance(told, list)
        self.assertEqual(told, due)

    def around(self, place):
        return [
            (place + (1,), "u"), (place, "q"), (place + (0,), "y"), (place, "x"), (place + (0,), "p"), (place, "y"),
            (place + (1,), "d"), (place, "p"),
        ]

    def test_an_up_reads_around_its_own_place(self):
        for place in ((), (0,)):
            for word in "xy":
                self.reads((place, word), self.around(place))

    def test_a_down_reads_around_the_place_right_above(self):
        for place in ((), (0,)):
            self.reads((place + (0,), "p"), self.around(place))
            self.reads((place + (0,), "q"), self.around(place))
            self.reads((place + (1,), "d"), self.around(place))

    def test_the_downs_of_the_top_read_none(self):
        for down in "pq":
            self.reads(((), down), [])
            self.reads(((), down), [], tree=G)
        self.reads(((), "d"), [], tree=H)

    def test_a_number_reads_none(self):
        for spot in (((0, 0), "x"), ((1,), "u"), ((2, 0), "p"), ((2, 0), "y")):
            self.reads(spot, [])

    def test_row_book(self):
        for spot, due in (
            (((), "to"), [((1,), "to")]), (((), "sum"), [((0,), "val"), ((1,), "sum")]), (((0,), "at"), [((), "from")]),
            (((1,), "from"), [((0,), "at"), ((1,), "step")]), (((1,), "step"), [((), "step")]),
            (((1, 0), "val"), [((1, 0), "at")]), (((1, 1), "to"), [((1, 1), "from")]), (((1, 1), "sum"), []),
            (((1, 1), "from"), [((1, 0), "at"), ((1, 1), "step")]), (((), "step"), []),
        ):
            self.reads(spot, due, ROW_BOOK, ROW_TREE)

    def test_each_once_in_the_order_of_the_readings(self):
        sorts = (("s", ("d",), ("x", "y")),)
        formula = ("when", own("y"), ("plus", own("d"), own("y")), ("times", part(0, "x"), own("d")))
        book = book_with(2, sorts, (("f", "s", ("s",)), ("g", "s", ())),
                         lambda bare, form, key: formula if form[2] else chain(15, "plus", own("x")))
        tree = ("f", (("g", ()),))
        for spot in (((), "x"), ((), "y"), ((0,), "d")):
            self.reads(spot, [((), "y"), ((), "d"), ((0,), "x")], book, tree)
        self.reads(((0,), "x"), [((0,), "x")], book, tree)

    def test_the_form_above_tells_by_its_part(self):
        """Two parts of one sort, each with rules of its own; the form at the place itself tells none of its downs."""
        sorts = (("s", ("d",), ("u",)),)
        told = {(-1, "u"): ONE, (0, "d"): own("d"), (1, "d"): part(0, "u"), (2, "d"): part(1, "d")}
        book = book_with(2, sorts, (("f", "s", ("s", "s", "s")), ("g", "s", ())), lambda bare, form, key: told[key])
        g = ("g", ())
        tree = ("f", (g, ("f", (g, g, g)), g))
        for place, due in (((0,), ((), "d")), ((1,), ((0,), "u")), ((2,), ((1,), "d")), ((1, 0), ((1,), "d")),
                           ((1, 1), ((1, 0), "u")), ((1, 2), ((1, 1), "d"))):
            self.reads((place, "d"), [due], book, tree)

    def test_sixty_places(self):
        book, tree = long_book(), tower(60)
        for many in range(59):
            place = (0,) * many
            self.reads((place, "x"), [(place + (0,), "z")], book, tree)
            self.reads((place + (0,), "p"), [(place, "r")], book, tree)
            self.reads((place + (0,), "q"), [(place + (0,), "p")], book, tree)

    def test_as_the_words_tell(self):
        for book, tree, given in books_with_trees(60, 12):
            for spot in all_spots(book, tree):
                self.assertEqual(reads_at(book, tree, spot), read_by(book, tree, spot))

    def test_formulas_of_four_hundred_tuples(self):
        book = book_with(2, SORTS, HEADS,
                         lambda bare, form, key: chain(399, "plus", part(0, "x")) if form[0] == "f" else ONE)
        self.reads(((), "x"), [((0,), "x")], book)
        self.reads(((0, 1), "d"), [((0, 0), "x")], book)
        made = made_straight(ROW_BOOK)
        self.reads(((1,), "from"), [((), "from"), ((), "step")], made, ROW_TREE)

    def refused(self, book, tree, spot):
        for wider in (NoSpot, BoughError, ValueError):
            with self.subTest(spot=spot), self.assertRaises(wider):
                reads_at(book, tree, spot)

    def test_no_spots(self):
        for spot in (((), ""), ((), "d"), ((), "u"), ((), "X"), ((), "x "), ((), "own"), ((), "f"), ((1,), "x"), ((2,), "x"),
                     ((2,), "d"), ((3,), "x"), ((-1,), "x"), ((0, -1), "u"), ((0, 3), "x"), ((0, 0, 0), "x"), ((-3,), "x"),
                     ((1, 0), "x"), ((10 ** 30,), "x"), ((-10 ** 30,), "x"), ((0,) * 1000, "x"), ((), "x" * 4000),
                     ((2, -1), "x"), ((2, 1), "x"), ((0, 2), "x"), ((0, 1, 0), "u")):
            self.refused(BOOK, TREE, spot)
        self.refused(BOOK, J, ((), "x"))
        self.refused(LEVEL_BOOK, ("ab", ()), ((), "size"))
        self.refused(long_book(), tower(60), ((0,) * 60, "x"))

    def test_each_tuple_is_a_spot_or_refused(self):
        spots = all_spots(BOOK, TREE)
        for length in range(4):
            for place in itertools.product(range(-1, 4), repeat=length):
                for word in ("p", "q", "x", "y", "d", "u"):
                    if (place, word) in spots:
                        reads_at(BOOK, TREE, (place, word))
                    else:
                        with self.assertRaises(NoSpot):
                            reads_at(BOOK, TREE, (place, word))

    def test_a_told_list_that_was_changed_changes_nothing(self):
        told = reads_at(BOOK, TREE, ((), "x"))
        told.clear()
        told.append("spoilt")
        self.assertEqual(reads_at(BOOK, TREE, ((), "x")), self.around(()))
        self.assertEqual(BOOK, around_book())


if __name__ == "__main__":
    unittest.main()
