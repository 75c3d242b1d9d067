"""Point 18: the hang of a tree."""

import unittest

from boughworth.errors import BoughError, Ring, Tangled, TooGreat
from boughworth.hangs import hang_of
from boughworth.straight import made_straight
from example_books import LEVEL_BOOK, ROW_BOOK, book_with, own, part, sum_of
from example_trees import (
    all_reads, books_with_trees, come_to, hanging, is_ring_by_the_words, long_book, tower,
)
from examples import ONE

SORTS = (("a", ("p", "q", "b"), ("x", "y", "a")),)


def one_place(x, y, a):
    """The hang of a tree of one place with these formulas."""
    told = {"x": x, "y": y, "a": a}
    book = book_with(9, SORTS, (("f", "a", ()),), lambda bare, form, key: told[key[1]])
    return hang_of(book, ("f", ()))


def hang_by_the_words(book, tree):
    reached = come_to(all_reads(book, tree))
    sort = [form[1] for form in book[2] if form[0] == tree[0]][0]
    downs, ups = [one[1:] for one in book[1] if one[0] == sort][0]
    return tuple(sorted((down, up) for down in downs for up in ups if ((), down) in reached[((), up)]))


class HangTest(unittest.TestCase):

    def test_of_one_place(self):
        self.assertEqual(one_place(ONE, ONE, ONE), ())
        self.assertEqual(one_place(own("p"), ONE, ONE), (("p", "x"),))
        self.assertEqual(one_place(ONE, ONE, own("b")), (("b", "a"),))
        self.assertEqual(one_place(own("q"), own("p"), ONE), (("p", "y"), ("q", "x")))

    def test_sorted_and_each_once(self):
        """Not in the sort's order: b stands ahead of p, and a ahead of x."""
        every = sum_of([own("q"), own("p"), own("b"), own("q")])
        due = (("b", "a"), ("b", "x"), ("b", "y"), ("p", "a"), ("p", "x"), ("p", "y"), ("q", "a"), ("q", "x"), ("q", "y"))
        self.assertEqual(one_place(every, every, every), due)
        self.assertEqual(one_place(every, own("x"), ("plus", own("y"), own("x"))), due)
        self.assertEqual(one_place(every, ONE, own("b")), (("b", "a"), ("b", "x"), ("p", "x"), ("q", "x")))

    def test_by_reading_on_through_other_ups(self):
        self.assertEqual(one_place(own("y"), own("a"), own("p")), (("p", "a"), ("p", "x"), ("p", "y")))
        self.assertEqual(one_place(own("y"), ("plus", own("p"), ONE), own("q")), (("p", "x"), ("p", "y"), ("q", "a")))

    def test_what_is_read_counts_also_where_it_does_not_matter(self):
        self.assertEqual(one_place(("times", ("num", 0), own("p")), ("when", ONE, ONE, own("q")), ONE),
                         (("p", "x"), ("q", "y")))

    def test_through_parts(self):
        told = {
            ("f", (-1, "x")): part(0, "y"), ("f", (-1, "y")): part(1, "x"), ("f", (-1, "a")): part(0, "b"),
            ("f", (0, "p")): own("q"), ("f", (0, "q")): ONE, ("f", (0, "b")): part(1, "a"),
            ("f", (1, "p")): own("p"), ("f", (1, "q")): own("q"), ("f", (1, "b")): own("b"),
            ("g", (-1, "x")): own("q"), ("g", (-1, "y")): own("p"), ("g", (-1, "a")): own("b"),
        }
        book = book_with(9, SORTS, (("f", "a", ("a", "a")), ("g", "a", ())), lambda bare, form, key: told[(form[0], key)])
        g = ("g", ())
        self.assertEqual(hang_of(book, g), (("b", "a"), ("p", "y"), ("q", "x")))
        # x by y of part 0 and its p comes to q; y by x of part 1 to q; a by b of part 0 and a of part 1 to b.
        self.assertEqual(hang_of(book, ("f", (g, g))), (("b", "a"), ("q", "x"), ("q", "y")))
        # y of the part 0 within comes to its q, which is a number; x of part 1 within to its q.
        self.assertEqual(hang_of(book, ("f", (("f", (g, g)), g))), (("b", "a"), ("q", "y")))
        self.assertEqual(hang_of(book, ("f", (g, ("f", (g, g))))), (("b", "a"), ("q", "x"), ("q", "y")))

    def test_only_the_tops(self):
        """A part's up that comes to the part's down is no pair of the top's, unless the top's up comes to it."""
        told = {("f", (-1, "u")): ONE, ("f", (0, "d")): own("d"), ("g", (-1, "u")): own("d")}
        book = book_with(9, (("s", ("d",), ("u",)),), (("f", "s", ("s",)), ("g", "s", ())),
                         lambda bare, form, key: told[(form[0], key)])
        self.assertEqual(hang_of(book, ("g", ())), (("d", "u"),))
        self.assertEqual(hang_of(book, ("f", (("g", ()),))), ())

    def test_of_sixty_places(self):
        for many in (1, 2, 30, 60):
            self.assertEqual(hang_of(long_book(), tower(many)), (("r", "x"), ("r", "y"), ("r", "z")))

    def test_without_downs_or_ups(self):
        self.assertEqual(hang_of(LEVEL_BOOK, ("leaf", (("ab", ()),))), ())
        book = book_with(9, (("s", ("d",), ()),), (("f", "s", ()),), lambda bare, form, key: ONE)
        self.assertEqual(hang_of(book, ("f", ())), ())
        self.assertEqual(hang_of(ROW_BOOK, ("none", ())), (("from", "to"),))
        self.assertEqual(hang_of(ROW_BOOK, ("some", (("same", ()), ("none", ())))),
                         (("from", "sum"), ("from", "to"), ("step", "to")))

    def test_as_the_words_tell(self):
        seen = {"ring": 0, 0: 0, 1: 0}
        for book, tree, given in books_with_trees(200, 14):
            if hanging(all_reads(book, tree)):
                seen["ring"] += 1
                self.refused(book, tree)
            else:
                told = hang_of(book, tree)
                self.assertIsInstance(told, tuple)
                self.assertEqual(told, hang_by_the_words(book, tree))
                self.assertEqual(hang_of(book, tree), told)
                seen[min(1, len(told))] += 1
        self.assertGreater(min(seen.values()), 30, seen)

    def test_the_book_made_straight_has_the_same(self):
        seen = 0
        for book, tree, given in books_with_trees(200, 14):
            try:
                made = made_straight(book)
            except (Tangled, TooGreat):
                continue
            if not hanging(all_reads(book, tree)):
                self.assertEqual(hang_of(made, tree), hang_of(book, tree))
                seen += 1
            else:
                self.refused(made, tree)
        self.assertGreater(seen, 20)

    def refused(self, book, tree):
        for wider in (Ring, BoughError, ValueError):
            with self.assertRaises(wider) as caught:
                hang_of(book, tree)
        ring = caught.exception.ring
        self.assertIsInstance(ring, list)
        self.assertTrue(is_ring_by_the_words(all_reads(book, tree), ring))
        ring.clear()
        with self.assertRaises(Ring) as caught:
            hang_of(book, tree)
        self.assertTrue(caught.exception.ring)

    def test_ring(self):
        book = book_with(9, SORTS, (("f", "a", ()),), lambda bare, form, key: own(key[1]))
        self.refused(book, ("f", ()))

    def test_a_ring_that_no_up_of_the_top_comes_to(self):
        told = {
            ("f", (-1, "u")): own("d"), ("f", (0, "d")): part(0, "u"), ("g", (-1, "u")): own("d"), ("h", (-1, "u")): ONE,
        }
        book = book_with(9, (("s", ("d",), ("u",)),), (("f", "s", ("s",)), ("g", "s", ()), ("h", "s", ())),
                         lambda bare, form, key: told[(form[0], key)])
        self.refused(book, ("f", (("g", ()),)))
        self.refused(book, ("f", (("f", (("g", ()),)),)))
        self.assertEqual(hang_of(book, ("f", (("h", ()),))), (("d", "u"),))
        with self.assertRaises(Ring) as caught:
            hang_of(book, ("f", (("g", ()),)))
        self.assertEqual(set(caught.exception.ring), {((0,), "d"), ((0,), "u")})


if __name__ == "__main__":
    unittest.main()
