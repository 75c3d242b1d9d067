"""Points 15 to 17 and 4: what is given to a tree, its worths, its orders and rings."""

import unittest

from boughworth.asking import worth_at, worths_of
from boughworth.errors import BoughError, NoGiven, NoSpot, Ring, Tangled, TooGreat
from boughworth.formulas import size_of
from boughworth.straight import made_straight
from example_books import LEVEL_BOOK, ROW_BOOK, all_spots, book_with, own, part, sum_of
from example_trees import (
    all_reads, books_with_trees, come_to, hanging, is_order_by_the_words, is_ring_by_the_words, long_book, tower,
    worth_by_its_rule,
)
from examples import ONE, chain, within

ROW_TREE = ("some", (("same", ()), ("some", (("squared", ()), ("some", (("same", ()), ("none", ())))))))
ROW_GIVEN = {"from": 3, "step": 4}

RING_SORTS = (("a", ("d", "e"), ("x", "y", "z")),)
RING_HEADS = (("f", "a", ("a",)), ("g", "a", ()))
# At each place but the last: x waits for the part's x, and that, at the end, for d, which waits for x again.
RING_TOLD = {
    ("f", (-1, "x")): part(0, "x"), ("f", (-1, "y")): ("plus", own("x"), ONE), ("f", (-1, "z")): part(0, "z"),
    ("f", (0, "d")): part(0, "x"), ("f", (0, "e")): ("plus", own("e"), ONE),
    ("g", (-1, "x")): own("d"), ("g", (-1, "y")): own("y"), ("g", (-1, "z")): ("times", own("e"), ("num", 10)),
}


def ring_book(told=(), wheel=10 ** 6):
    told = {**RING_TOLD, **dict(told)}
    return book_with(wheel, RING_SORTS, RING_HEADS, lambda bare, form, key: told[(form[0], key)])


G = ("g", ())


def ring_tree(places):
    return tower(places, "f", "g")


class GivenTest(unittest.TestCase):

    def taken(self, given, due, book=ROW_BOOK, tree=("none", ())):
        for down, number in due.items():
            self.assertEqual(worth_at(book, tree, given, ((), down)), number)
        self.assertEqual(worths_of(book, tree, given)[0], "worths")

    def refused(self, given, book=ROW_BOOK, tree=("none", ())):
        for wider in (NoGiven, BoughError, ValueError):
            with self.subTest(given=given), self.assertRaises(wider):
                worths_of(book, tree, given)
            with self.subTest(given=given), self.assertRaises(wider):
                worth_at(book, tree, given, ((), "to"))

    def test_the_tops_downs_are_what_is_given(self):
        self.taken({"from": 5, "step": 0}, {"from": 5, "step": 0})
        self.taken({"step": 0, "from": 5}, {"from": 5, "step": 0})
        self.taken({"from": 1000003, "step": 1000004}, {"from": 0, "step": 1})
        self.taken({"from": -1, "step": -1000003}, {"from": 1000002, "step": 0})

    def test_thirty_figures(self):
        most = 10 ** 30 - 1
        self.taken({"from": most, "step": -most}, {"from": most % 1000003, "step": -most % 1000003})
        book = (10 ** 30,) + ROW_BOOK[1:]
        self.taken({"from": most, "step": -most}, {"from": most, "step": 1}, book)
        self.refused({"from": most + 1, "step": 0})
        self.refused({"from": 0, "step": -most - 1})
        self.refused({"from": 0, "step": 10 ** 31})
        self.refused({"from": 0, "step": 10 ** 5000})

    def test_keys(self):
        for given in ({}, {"from": 1}, {"step": 1}, {"from": 1, "step": 2, "to": 3}, {"from": 1, "step": 2, "": 3},
                      {"from": 1, "other": 2}, {"from": 1, "Step": 2}, {"from": 1, "step ": 2}, {"to": 1, "sum": 2},
                      {"from": 1, "step": 2, "at": 3}):
            self.refused(given)

    def test_numbers(self):
        for thing in (True, False, None, "", "1", "x", (), (1,), [], [1], {}, {"from": 1}, [[]], ("num", 1)):
            self.refused({"from": thing, "step": 0})
            self.refused({"from": 0, "step": thing})
            self.refused({"from": thing, "step": thing})

    def test_a_top_without_downs(self):
        tree = ("leaf", (("ab", ()),))
        self.assertEqual(worth_at(LEVEL_BOOK, tree, {}, ((), "size")), 2)
        for given in ({"size": 1}, {"": 0}, {"long": 2}, {"x": None}):
            self.refused(given, LEVEL_BOOK, tree)

    def test_only_the_tops_downs_are_asked(self):
        tree = ("some", (("same", ()), ("none", ())))
        self.assertEqual(worth_at(ROW_BOOK, tree, {"from": 1, "step": 2}, ((0,), "at")), 1)
        self.assertEqual(worth_at(ROW_BOOK, ("same", ()), {"at": 8}, ((), "val")), 8)
        self.refused({"from": 1, "step": 2, "at": 1}, ROW_BOOK, tree)
        self.refused({"from": 1, "step": 2}, ROW_BOOK, ("same", ()))

    def test_no_given_goes_ahead_of_no_spot_ahead_of_ring(self):
        book, tree = ring_book(), ring_tree(3)
        for spot in (((), "nowhere"), ((9,), "x"), ((0,), "x"), ((), "x"), ((0, 0), "z")):
            for given in ({}, {"d": 1}, {"d": 1, "e": True}, {"d": 1, "e": 2, "f": 3}):
                with self.assertRaises(NoGiven):
                    worth_at(book, tree, given, spot)
        for spot in (((), "nowhere"), ((9,), "x"), ((-1,), "x"), ((0, 0, 0), "x"), ((), ""), ((0,), "own")):
            for wider in (NoSpot, BoughError, ValueError):
                with self.assertRaises(wider):
                    worth_at(book, tree, {"d": 1, "e": 2}, spot)
        with self.assertRaises(Ring):
            worth_at(book, tree, {"d": 1, "e": 2}, ((0,), "x"))

    def test_what_is_handed_in_stays_and_is_not_kept(self):
        given = {"from": 3, "step": 4}
        told = worths_of(ROW_BOOK, ROW_TREE, given)
        worth_at(ROW_BOOK, ROW_TREE, given, ((), "sum"))
        self.assertEqual(given, {"from": 3, "step": 4})
        given["from"] = 100
        given.pop("step")
        self.assertEqual(told[1][((), "from")], 3)
        self.assertEqual(told[1][((), "step")], 4)


class WorthsTest(unittest.TestCase):

    def looked_at(self, book, tree, given):
        """All that points 4, 16 and 17 promise of one tree."""
        reads = all_reads(book, tree)
        hang = hanging(reads)
        told = worths_of(book, tree, given)
        self.assertIsInstance(told, tuple)
        self.assertEqual(len(told), 3)
        worths = told[2] if hang else told[1]
        if hang:
            self.assertEqual(told[0], "ring")
            self.assertTrue(is_ring_by_the_words(reads, told[1]))
        else:
            self.assertEqual(told[0], "worths")
            self.assertTrue(is_order_by_the_words(reads, told[2]))
        self.assertEqual(set(worths), set(reads) - hang)
        for spot, worth in worths.items():
            self.assertEqual(worth, worth_by_its_rule(book, tree, given, spot, worths))
        self.assertEqual(worths_of(book, tree, given), told)
        return worths, hang

    def test_row_book(self):
        for spot, number in (
            (((), "from"), 3), (((0,), "val"), 3), (((1, 0), "at"), 7), (((1, 0), "val"), 49), (((1, 1, 0), "val"), 11),
            (((1, 1, 1), "from"), 15), (((), "to"), 15), (((), "sum"), 63), (((1,), "sum"), 60), (((1, 1, 1), "sum"), 0),
        ):
            self.assertEqual(worth_at(ROW_BOOK, ROW_TREE, ROW_GIVEN, spot), number)
        kind, worths, order = worths_of(ROW_BOOK, ROW_TREE, ROW_GIVEN)
        self.assertEqual((kind, worths[((), "sum")]), ("worths", 63))
        self.assertCountEqual(order, all_spots(ROW_BOOK, ROW_TREE))

    def test_without_a_wheel(self):
        leaf = ("leaf", (within(3, ("ab", ()), lambda inner: ("more", (inner,))),))
        tree = ("join", (leaf, ("join", (("leaf", (("ab", ()),)), leaf))))
        kind, worths, order = worths_of(LEVEL_BOOK, tree, {})
        self.assertEqual(kind, "worths")
        self.assertEqual((worths[((), "size")], worths[((), "deep")]), (54 + 2 + 54, 2))
        self.looked_at(LEVEL_BOOK, tree, {})

    def test_great_numbers_are_exact(self):
        sorts = (("a", (), ("u",)),)
        told = {
            "f": ("times", part(0, "u"), ("times", ("num", -999999), part(1, "u"))), "g": chain(15, "times", ("num", -7)),
        }
        book = book_with(0, sorts, (("f", "a", ("a", "a")), ("g", "a", ())), lambda bare, form, key: told[form[0]])
        tree = within(29, G, lambda inner: ("f", (inner, G)))
        self.assertEqual(worth_at(book, tree, {}, ((), "u")), (-999999) ** 29 * (7 ** 8) ** 30)
        book = book_with(0, sorts, (("f", "a", ("a",)), ("g", "a", ())), lambda bare, form, key: (
            sum_of([part(0, "u")] * 8) if form[2] else ("num", 1)))
        self.assertEqual(worth_at(book, tower(60, "f", "g"), {}, ((), "u")), 8 ** 59)

    def test_numbers_below_0_without_a_wheel(self):
        sorts = (("a", (), ("u",)),)
        book = book_with(0, sorts, (("f", "a", ("a",)), ("g", "a", ())), lambda bare, form, key: (
            ("less", part(0, "u"), ("num", 5)) if form[2] else ("num", 1)))
        self.assertEqual(worth_at(book, tower(4, "f", "g"), {}, ((), "u")), -14)
        self.assertEqual(worth_at((7,) + book[1:], tower(4, "f", "g"), {}, ((), "u")), 0)

    def test_a_tree_without_spots(self):
        book = book_with(0, (("a", (), ()),), (("f", "a", ("a",)), ("g", "a", ())), lambda bare, form, key: ONE)
        for tree in (G, tower(60, "f", "g")):
            self.assertEqual(worths_of(book, tree, {}), ("worths", {}, []))
        with self.assertRaises(NoSpot):
            worth_at(book, G, {}, ((), "u"))

    def test_many_trees_as_the_words_tell(self):
        seen = {True: 0, False: 0}
        for book, tree, given in books_with_trees(120, 12):
            worths, hang = self.looked_at(book, tree, given)
            seen[bool(hang)] += 1
            reads = all_reads(book, tree)
            reached = come_to(reads)
            for spot in all_spots(book, tree):
                if spot in hang:
                    with self.assertRaises(Ring) as caught:
                        worth_at(book, tree, given, spot)
                    self.assertTrue(is_ring_by_the_words(reads, caught.exception.ring))
                    self.assertLessEqual(set(caught.exception.ring), reached[spot])
                else:
                    self.assertEqual(worth_at(book, tree, given, spot), worths[spot])
        self.assertGreater(min(seen.values()), 30, seen)

    def test_trees_of_sixty_places(self):
        for book, tree, given in books_with_trees(25, 60):
            self.looked_at(book, tree, given)

    def test_some_hundred_that_read_one_another_in_a_row(self):
        book, tree, given = long_book(), tower(60), {"p": 1, "q": 2, "r": 5}
        self.assertEqual(worth_at(book, tree, given, ((), "z")), 5 + 59 * 3 + 60 * 3)
        self.assertEqual(worth_at(book, tree, given, ((0,) * 59, "r")), 5 + 59 * 3)
        kind, worths, order = worths_of(book, tree, given)
        self.assertEqual((kind, len(worths), worths[((), "z")]), ("worths", 360, 5 + 59 * 3 + 60 * 3))
        self.assertTrue(is_order_by_the_words(all_reads(book, tree), order))

    def test_a_ring_of_some_hundred(self):
        """The top of the row is put beneath another form, which hands its z down as r."""
        ahead = long_book()
        head = ("close", "a", ("a",), (
            (-1, "x", part(0, "z")), (-1, "y", ONE), (-1, "z", own("y")), (0, "p", part(0, "z")), (0, "q", part(0, "p")),
            (0, "r", part(0, "q")),
        ))
        book = ahead[:2] + (ahead[2] + (head,),)
        tree = ("close", (tower(59),))
        given = {"p": 0, "q": 0, "r": 0}
        kind, ring, worths = worths_of(book, tree, given)
        self.assertEqual((kind, len(ring)), ("ring", 59 * 6))
        self.assertTrue(is_ring_by_the_words(all_reads(book, tree), ring))
        self.assertEqual(worths, {((), "p"): 0, ((), "q"): 0, ((), "r"): 0, ((), "y"): 1, ((), "z"): 1})
        with self.assertRaises(Ring) as caught:
            worth_at(book, tree, given, ((), "x"))
        self.assertCountEqual(caught.exception.ring, ring)

    def test_what_is_told_is_the_askers_own(self):
        told = worths_of(ROW_BOOK, ROW_TREE, ROW_GIVEN)
        told[1].clear()
        told[2].reverse()
        told[2].append("spoilt")
        self.looked_at(ROW_BOOK, ROW_TREE, ROW_GIVEN)
        told = worths_of(ring_book(), ring_tree(3), {"d": 1, "e": 2})
        told[1].append("spoilt")
        told[2].clear()
        self.looked_at(ring_book(), ring_tree(3), {"d": 1, "e": 2})
        for _ in range(2):
            with self.assertRaises(Ring) as caught:
                worth_at(ring_book(), ring_tree(3), {"d": 1, "e": 2}, ((), "y"))
            self.assertTrue(is_ring_by_the_words(all_reads(ring_book(), ring_tree(3)), caught.exception.ring))
            caught.exception.ring.clear()

    def test_book_and_tree_stay(self):
        book, tree = ring_book(), ring_tree(4)
        worths_of(book, tree, {"d": 1, "e": 2})
        self.assertEqual((book, tree), (ring_book(), ring_tree(4)))


class RingTest(unittest.TestCase):

    given = {"d": 5, "e": 6}

    def ring_at(self, book, tree, spot, rings=None):
        for wider in (Ring, BoughError, ValueError):
            with self.assertRaises(wider) as caught:
                worth_at(book, tree, self.given, spot)
        ring = caught.exception.ring
        self.assertIsInstance(ring, list)
        reads = all_reads(book, tree)
        self.assertTrue(is_ring_by_the_words(reads, ring))
        self.assertLessEqual(set(ring), come_to(reads)[spot])
        if rings is not None:
            self.assertIn(set(ring), rings)

    def test_a_spot_that_reads_itself(self):
        for formula in (own("y"), ("plus", own("y"), ONE), ("times", ("num", 0), own("y")), ("when", ONE, ONE, own("y"))):
            book = ring_book({("g", (-1, "y")): formula})
            self.ring_at(book, G, ((), "y"), [{((), "y")}])
            self.assertEqual(worths_of(book, G, self.given),
                             ("ring", [((), "y")], {((), "d"): 5, ((), "e"): 6, ((), "x"): 5, ((), "z"): 60}))

    def test_a_ring_of_two(self):
        book = ring_book({("g", (-1, "x")): own("y"), ("g", (-1, "y")): own("x")})
        for word in "xy":
            self.ring_at(book, G, ((), word), [{((), "x"), ((), "y")}])
        self.assertEqual(worths_of(book, G, self.given)[2], {((), "d"): 5, ((), "e"): 6, ((), "z"): 60})

    def test_a_ring_over_several_places(self):
        book = ring_book({("g", (-1, "y")): ONE})
        tree = ring_tree(2)
        ring = {((0,), "d"), ((0,), "x")}
        for spot in (((0,), "d"), ((0,), "x"), ((), "x"), ((), "y")):
            self.ring_at(book, tree, spot, [ring])
        kind, told, worths = worths_of(book, tree, self.given)
        self.assertEqual((kind, set(told), len(told)), ("ring", ring, 2))
        self.assertEqual(worths, {((), "d"): 5, ((), "e"): 6, ((), "z"): 70, ((0,), "e"): 7, ((0,), "y"): 1,
                                  ((0,), "z"): 70})

    def test_a_ring_of_many_spots(self):
        book = ring_book({("f", (0, "d")): own("d"), ("g", (-1, "y")): ONE})
        top = ("k", "a", ("a",), (
            (-1, "x", ONE), (-1, "y", ONE), (-1, "z", ONE), (0, "d", part(0, "x")), (0, "e", own("e")),
        ))
        book = book[:2] + (book[2] + (top,),)
        for places in (1, 2, 10, 59):
            tree = ("k", (ring_tree(places),))
            ring = {((0,) * many, word) for many in range(1, places + 1) for word in "dx"}
            for spot in (((0,), "x"), ((0,) * places, "d")):
                self.ring_at(book, tree, spot, [ring])
            self.assertEqual(set(worths_of(book, tree, self.given)[1]), ring)
            self.assertEqual(worth_at(book, tree, self.given, ((), "x")), 1)
            self.assertEqual(worth_at(book, tree, self.given, ((0,), "z")), (6 + places - 1) * 10)

    def test_a_spot_that_only_comes_to_a_ring_by_reading_on(self):
        book = ring_book({("g", (-1, "y")): ONE})
        for places in (3, 4, 10):
            tree = ring_tree(places)
            last = (0,) * (places - 1)
            self.ring_at(book, tree, ((), "y"), [{(last, "d"), (last, "x")}])
            self.ring_at(book, tree, ((0,), "d"))
        book = ring_book({("f", (-1, "y")): part(0, "y")})
        for places in (2, 3, 60):
            last = (0,) * (places - 1)
            for many in range(0, places, 7):
                self.ring_at(book, ring_tree(places), ((0,) * many, "y"), [{(last, "y")}])

    def test_what_hangs_on_none_has_its_worth_though_others_hang(self):
        book = ring_book()
        for places in (2, 3, 20, 60):
            tree = ring_tree(places)
            for many in (0, 1, places - 1):
                self.assertEqual(worth_at(book, tree, self.given, ((0,) * many, "e")), 6 + many)
                self.assertEqual(worth_at(book, tree, self.given, ((0,) * many, "z")), (6 + places - 1) * 10)
            self.assertEqual(worth_at(book, tree, self.given, ((), "d")), 5)
            told = worths_of(book, tree, self.given)
            self.assertEqual(told[0], "ring")
            due = {((0,) * many, word) for many in range(places) for word in "ez"} | {((), "d")}
            self.assertEqual(set(told[2]), due)

    def test_both_sides_of_a_when_are_read(self):
        for formula in (("when", ("num", 0), ONE, own("y")), ("when", ("num", 1), own("y"), ONE),
                        ("when", own("d"), own("y"), own("y"))):
            self.ring_at(ring_book({("g", (-1, "y")): formula}), G, ((), "y"))

    def test_two_rings(self):
        """y reads itself, x and z one another; a spot is told a ring that it comes to itself."""
        book = ring_book({("g", (-1, "x")): own("z"), ("g", (-1, "z")): own("x"), ("f", (-1, "y")): part(0, "y"),
                          ("f", (-1, "x")): part(0, "x"), ("f", (0, "d")): ONE, ("f", (0, "e")): ONE})
        tree = ring_tree(2)
        self.ring_at(book, tree, ((), "y"), [{((0,), "y")}])
        self.ring_at(book, tree, ((), "x"), [{((0,), "x"), ((0,), "z")}])
        self.ring_at(book, tree, ((), "z"), [{((0,), "x"), ((0,), "z")}])
        self.assertEqual(worths_of(book, tree, self.given)[0], "ring")


class StraightTest(unittest.TestCase):
    """Point 11, its last two sentences."""

    def test_the_same_by_both(self):
        seen = {"worths": 0, "ring": 0}
        for book, tree, given in books_with_trees(120, 12):
            try:
                made = made_straight(book)
            except (Tangled, TooGreat):
                continue
            one, other = worths_of(book, tree, given), worths_of(made, tree, given)
            self.assertEqual(one[0], other[0])
            seen[one[0]] += 1
            self.assertEqual(one[1] if one[0] == "worths" else one[2], other[1] if one[0] == "worths" else other[2])
            if one[0] == "ring":
                self.assertTrue(is_ring_by_the_words(all_reads(made, tree), other[1]))
            else:
                self.assertTrue(is_order_by_the_words(all_reads(made, tree), other[2]))
                for spot in all_spots(book, tree)[:8]:
                    self.assertEqual(worth_at(made, tree, given, spot), one[1][spot])
        self.assertGreater(min(seen.values()), 5, seen)

    def test_formulas_of_four_hundred_tuples(self):
        """Made straight, the rules of x and of the part's p have just so many."""
        sorts = (("a", ("p",), ("x", "y", "z")),)
        told = {
            (-1, "z"): chain(15, "plus", own("p")),
            (-1, "y"): ("when", own("z"), own("z"), sum_of([own("z")] + [ONE] * 5)),
            (-1, "x"): sum_of([own("y")] * 7 + [ONE]),
            (0, "p"): own("x"),
        }
        book = book_with(1000, sorts, (("f", "a", ("a",)), ("g", "a", ())), lambda bare, form, key: told[key])
        made = made_straight(book)
        self.assertEqual([size_of(rule[2]) for rule in made[2][0][3]], [400, 56, 15, 400])
        for tree in (G, ring_tree(2), ring_tree(60)):
            for given in ({"p": 0}, {"p": 1}, {"p": -77}):
                one, other = worths_of(book, tree, given), worths_of(made, tree, given)
                self.assertEqual((one[0], one[1]), (other[0], other[1]))
                self.assertTrue(is_order_by_the_words(all_reads(made, tree), other[2]))
        self.assertEqual(worth_at(made, G, {"p": 1}, ((), "z")), 8)


if __name__ == "__main__":
    unittest.main()
