"""Points 24, 25 and 4: kept trees, what a change reckons anew, and why."""

import random
import unittest
from unittest import mock

from boughworth import kept as kept_module
from boughworth.asking import worths_of
from boughworth.errors import BoughError, NoChange, NoFit, NoGiven, NoPlace, NoSpot, Ring, Tangled, TooGreat
from boughworth.kept import Kept
from boughworth.straight import made_straight
from example_books import LEVEL_BOOK, ROW_BOOK, all_spots, book_with, form_at, own, part
from example_trees import (
    all_reads, books_with_trees, fewest_places, hanging, is_ring_by_the_words, long_book, random_tree, size, tower,
)
from examples import ONE

NO_NUMBERS = [
    True, False, None, "", "1", "x", (), (1,), [], [1], {}, {"p": 1}, 10 ** 30, -10 ** 30, 10 ** 31, 10 ** 5000,
]


def put_by_the_words(tree, place, bough):
    if place == ():
        return bough
    k = place[0]
    return (tree[0], tree[1][:k] + (put_by_the_words(tree[1][k], place[1:], bough),) + tree[1][k + 1:])


def bough_by_the_words(tree, place):
    for k in place:
        tree = tree[1][k]
    return tree


def new_by_the_words(book, tree, place):
    """Point 25: those of the places beneath the place, and the ups at the place itself."""
    ups = [sort[2] for sort in book[1] if sort[0] == form_at(book, tree, place)[1]][0]
    found = set()
    for spot in all_spots(book, tree):
        beneath = len(spot[0]) > len(place) and spot[0][:len(place)] == place
        if beneath or spot[0] == place and spot[1] in ups:
            found.add(spot)
    return found


class Watched:
    """A kept tree, looked at by the words of 24 and 25 behind each change, refused or not."""

    def __init__(self, case, book, tree, given):
        self.case, self.book, self.tree, self.given = case, book, tree, dict(given)
        self.stack, self.whys = [], {}
        self.kept = Kept(book, tree, given)
        self.looked_at()

    def looked_at(self):
        case = self.case
        kind, worths, order = worths_of(self.book, self.tree, self.given)
        case.assertEqual(kind, "worths")
        case.assertEqual(self.kept.tree(), self.tree)
        case.assertEqual(self.kept.given(), self.given)
        case.assertEqual(self.kept.worths(), worths)
        for spot, worth in worths.items():
            case.assertEqual(self.kept.worth(spot), worth)
            case.assertEqual(self.kept.why(spot), self.whys.get(spot))

    def put(self, place, bough):
        return self.changed(lambda: self.kept.put(place, bough), put_by_the_words(self.tree, place, bough), self.given,
                            (place, None))

    def give(self, word, number):
        return self.changed(lambda: self.kept.give(word, number), self.tree, {**self.given, word: number}, (None, word))

    def changed(self, do, tree, given, where):
        ahead = (self.tree, self.given, where)
        told = self.step(do, tree, given, where)
        self.stack.append(ahead)
        return told

    def back(self):
        tree, given, where = self.stack.pop()
        return self.step(self.kept.back, tree, given, where)

    def step(self, do, tree, given, where):
        case = self.case
        before = self.kept.worths()
        reckon = kept_module.worth_by_rule
        with mock.patch.object(kept_module, "worth_by_rule", side_effect=reckon) as counted:
            told = do()
        case.assertEqual(counted.call_count, len(told))
        self.tree, self.given = tree, given
        self.told_looked_at(told, before, where)
        self.looked_at()
        return told

    def told_looked_at(self, told, before, where):
        case, reads = self.case, all_reads(self.book, self.tree)
        after = worths_of(self.book, self.tree, self.given)[1]
        new = new_by_the_words(self.book, self.tree, where[0]) if where[0] is not None else set()
        bent = {spot for spot in after if after[spot] != before.get(spot)}
        due = new | {spot for spot in reads if bent & set(reads[spot])}
        case.assertIsInstance(told, list)
        case.assertEqual(len(told), len(set(told)))
        case.assertEqual(set(told), due)
        for k, spot in enumerate(told):
            case.assertFalse(set(reads[spot]) & set(told[k:]))
        self.whys = {}
        for spot in reads:
            self.whys[spot] = why = self.kept.why(spot)
            if spot not in due:
                case.assertIsNone(why)
                continue
            case.assertIsInstance(why, list)
            case.assertEqual(why[-1], spot)
            case.assertEqual(len(why), len(set(why)))
            case.assertTrue(why[0] in new or where[1] is not None and why[0] == ((), where[1]))
            for one, ahead in zip(why[1:], why):
                case.assertTrue(one not in new and one in due and ahead in reads[one] and ahead in bent)

    def refused(self, refusal, do):
        for wider in (refusal, BoughError):
            with self.case.assertRaises(wider) as caught:
                do()
            self.case.assertIs(type(caught.exception), refusal)
        self.looked_at()
        return caught.exception

    def refused_put(self, refusal, place, bough):
        return self.refused(refusal, lambda: self.kept.put(place, bough))

    def refused_give(self, word, number):
        self.refused(NoGiven, lambda: self.kept.give(word, number))

    def refused_ring(self, place, bough):
        ring = self.refused_put(Ring, place, bough).ring
        reads = all_reads(self.book, put_by_the_words(self.tree, place, bough))
        self.case.assertTrue(is_ring_by_the_words(reads, ring))


SAME, SQUARED, NONE = ("same", ()), ("squared", ()), ("none", ())


def row(*cells):
    tree = NONE
    for cell in reversed(cells):
        tree = ("some", (cell, tree))
    return tree


def row_kept(case, *cells):
    return Watched(case, ROW_BOOK, row(*cells), {"from": 3, "step": 4})


# The top's u is the part's u; the part's d is the own d, or, by the form bend, the part's v, which at the form loop
# reads d: bend(loop) has a ring, at any place.
RING_SORTS = (("s", ("d",), ("u", "v")),)
RING_HEADS = (("one", "s", ("s",)), ("bend", "s", ("s",)), ("loop", "s", ()), ("end", "s", ()))
RING_TOLD = {
    ("one", (-1, "u")): part(0, "u"), ("one", (-1, "v")): part(0, "v"), ("one", (0, "d")): own("d"),
    ("bend", (-1, "u")): part(0, "u"), ("bend", (-1, "v")): part(0, "v"), ("bend", (0, "d")): part(0, "v"),
    ("loop", (-1, "u")): own("d"), ("loop", (-1, "v")): own("d"),
    ("end", (-1, "u")): own("d"), ("end", (-1, "v")): ONE,
}
RING_BOOK = book_with(100, RING_SORTS, RING_HEADS, lambda bare, form, key: RING_TOLD[(form[0], key)])
LOOP, END = ("loop", ()), ("end", ())


class MadeTest(unittest.TestCase):

    def refused(self, refusal, book, tree, given):
        for wider in (refusal, BoughError):
            with self.assertRaises(wider) as caught:
                Kept(book, tree, given)
            self.assertIs(type(caught.exception), refusal)
        return caught.exception

    def test_a_kept_tree_has_what_it_was_made_of(self):
        watched = row_kept(self, SAME, SQUARED)
        self.assertEqual(watched.kept.tree(), row(SAME, SQUARED))
        self.assertEqual(watched.kept.given(), {"from": 3, "step": 4})
        self.assertEqual(watched.kept.worth(((), "sum")), 3 + 49)
        self.assertEqual(watched.kept.worths()[((1, 1), "to")], 11)
        for spot in watched.kept.worths():
            self.assertIsNone(watched.kept.why(spot))

    def test_no_given(self):
        for given in ({}, {"from": 1}, {"from": 1, "step": 2, "at": 3}, {"from": 1, "to": 2}):
            self.refused(NoGiven, ROW_BOOK, row(SAME), given)
        for thing in NO_NUMBERS:
            self.refused(NoGiven, ROW_BOOK, row(SAME), {"from": thing, "step": 1})
            self.refused(NoGiven, ROW_BOOK, row(SAME), {"from": 1, "step": thing})

    def test_ring(self):
        for tree in (("bend", (LOOP,)), ("one", (("bend", (("one", (LOOP,)),)),))):
            ring = self.refused(Ring, RING_BOOK, tree, {"d": 1}).ring
            self.assertTrue(is_ring_by_the_words(all_reads(RING_BOOK, tree), ring))

    def test_no_given_goes_ahead_of_ring(self):
        for given in ({}, {"d": None}, {"d": 1, "e": 2}, {"d": 10 ** 30}):
            self.refused(NoGiven, RING_BOOK, ("bend", (LOOP,)), given)

    def test_given_is_as_it_was_given(self):
        most = 10 ** 30 - 1
        for number in (0, -1, 1000003, 1000004, -1000003, most, -most):
            watched = Watched(self, ROW_BOOK, NONE, {"from": number, "step": -number})
            self.assertEqual(watched.kept.given(), {"from": number, "step": -number})
            self.assertEqual(watched.kept.worth(((), "from")), number % 1000003)

    def test_no_spot(self):
        watched = row_kept(self, SAME)
        for spot in (((), "at"), ((), ""), ((), "nowhere"), ((0,), "from"), ((2,), "at"), ((-1,), "from"),
                     ((1, 0), "at"), ((0, 0), "val"), ((1, 1), "from"), ((9,), "x"), ((), "From")):
            watched.refused(NoSpot, lambda: watched.kept.worth(spot))
            watched.refused(NoSpot, lambda: watched.kept.why(spot))

    def test_spots_come_and_go(self):
        watched = row_kept(self, SAME)
        watched.put((1,), row(SAME))
        self.assertEqual(watched.kept.worth(((1, 0), "val")), 7)
        watched.back()
        for ask in (watched.kept.worth, watched.kept.why):
            with self.assertRaises(NoSpot):
                ask(((1, 0), "val"))

    def test_without_worths(self):
        book = (0, (("s", (), ()),), (("f", "s", ("s",), ()), ("g", "s", (), ())))
        watched = Watched(self, book, ("f", (("g", ()),)), {})
        self.assertEqual(watched.put((0,), ("f", (("g", ()),))), [])
        self.assertEqual(watched.put((), ("g", ())), [])
        watched.refused_give("x", 1)
        self.assertEqual(watched.back(), [])
        self.assertEqual(watched.back(), [])
        self.assertEqual(watched.kept.worths(), {})


class PutTest(unittest.TestCase):

    def test_at_the_top(self):
        watched = row_kept(self, SAME, SAME)
        self.assertEqual(len(watched.put((), row(SQUARED))), 8)
        self.assertEqual(len(watched.put((), NONE)), 2)
        self.assertEqual(len(watched.put((), row(SAME, SAME, SAME))), 20)

    def test_beneath(self):
        watched = row_kept(self, SAME, SAME, SAME)
        told = watched.put((1, 0), SQUARED)
        self.assertEqual(told, [((1, 0), "val"), ((1,), "sum"), ((), "sum")])
        watched.put((1,), NONE)
        watched.put((1,), row(SAME, SQUARED, SAME))
        watched.put((1, 1, 1), row(SAME))
        self.assertEqual(watched.kept.tree(), row(SAME, SAME, SQUARED, SAME))

    def test_what_comes_after_another_bough_changes_what_it_reads(self):
        """Downs of later places do not change by another cell, but the ups above do."""
        watched = row_kept(self, SAME, SAME)
        self.assertEqual(watched.put((0,), SQUARED), [((0,), "val"), ((), "sum")])
        self.assertEqual(watched.kept.worth(((), "sum")), 9 + 7)

    def test_the_bough_that_stood_there(self):
        watched = row_kept(self, SAME, SAME)
        told = watched.put((1,), row(SAME))
        self.assertEqual(set(told), new_by_the_words(ROW_BOOK, row(SAME, SAME), (1,)))
        self.assertEqual(watched.put((0,), SAME), [((0,), "val")])
        self.assertEqual(watched.back(), [((0,), "val")])
        self.assertEqual(len(watched.put((), row(SAME, SAME))), 14)

    def test_a_change_that_dies_out_on_the_way(self):
        """Above the form pit u is the rest by nothing: the same, whatever stands beneath."""
        told = {
            ("up", (-1, "u")): ("plus", part(0, "u"), ONE), ("pit", (-1, "u")): ("times", part(0, "u"), ("num", 0)),
            ("a", (-1, "u")): ONE, ("b", (-1, "u")): ("num", 2),
        }
        heads = (("up", "s", ("s",)), ("pit", "s", ("s",)), ("a", "s", ()), ("b", "s", ()))
        for wheel in (0, 7):
            book = book_with(wheel, (("s", (), ("u",)),), heads, lambda bare, form, key: told[(form[0], key)])
            a, b = ("a", ()), ("b", ())
            watched = Watched(self, book, ("up", (("up", (("pit", (("up", (a,)),)),)),)), {})
            due = [((0, 0, 0, 0), "u"), ((0, 0, 0), "u"), ((0, 0), "u")]
            self.assertEqual(watched.put((0, 0, 0, 0), b), due)
            self.assertEqual(watched.kept.why(((0, 0), "u")), due)
            self.assertIsNone(watched.kept.why(((0,), "u")))
            self.assertEqual(watched.back(), due)

    def test_no_place(self):
        watched = row_kept(self, SAME)
        for place in ((2,), (-1,), (0, 0), (1, 0), (1, 1, 1), (10 ** 30,), (0, -1), (-2,)):
            for bough in (SAME, NONE, row(SAME), row(*[SAME] * 29), row(*[SAME] * 31)):
                watched.refused_put(NoPlace, place, bough)

    def test_no_fit(self):
        watched = row_kept(self, SAME)
        for place, bough in (((), SAME), ((0,), NONE), ((0,), row(SAME)), ((1,), SQUARED), ((0,), row(*[SAME] * 29))):
            watched.refused_put(NoFit, place, bough)

    def test_too_great(self):
        watched = row_kept(self, SAME)
        watched.put((), row(*[SAME] * 29))
        watched.put((1,) * 29, NONE)
        watched.refused_put(TooGreat, (1,) * 29, row(SAME))
        watched.refused_put(TooGreat, (1,), row(*[SAME] * 29))
        watched.refused_put(TooGreat, (), row(*[SAME] * 30))
        book = long_book()
        watched = Watched(self, book, tower(2), {"p": 1, "q": 2, "r": 3})
        watched.refused_put(TooGreat, (0,), tower(60))
        watched.put((0,), tower(59))
        watched.refused_put(TooGreat, (0,) * 59, tower(2))
        watched.put((0,), tower(58))
        watched.put((0,) * 58, tower(2))
        watched.refused_put(TooGreat, (), tower(61))
        self.assertEqual(size(watched.kept.tree()), 60)

    def test_ring(self):
        watched = Watched(self, RING_BOOK, ("one", (("one", (LOOP,)),)), {"d": 1})
        watched.refused_ring((), ("bend", (LOOP,)))
        watched.refused_ring((0,), ("bend", (LOOP,)))
        watched.put((0, 0), ("bend", (END,)))
        watched.refused_ring((0, 0, 0), LOOP)
        watched.refused_ring((0, 0, 0), ("one", (LOOP,)))
        watched.put((0, 0, 0), ("one", (END,)))
        watched.refused_ring((0, 0, 0, 0), LOOP)
        watched.put((0, 0), LOOP)

    def test_each_refusal_goes_ahead_of_the_next_one(self):
        """Of boughs that would make a tree too great and bring a ring, too."""
        deep = ("bend", (tower(59, "one", "loop"),))
        watched = Watched(self, RING_BOOK, ("one", (END,)), {"d": 1})
        watched.refused_put(NoPlace, (1,), deep)
        watched.refused_put(TooGreat, (0,), deep)
        watched.refused_ring((), deep)
        sorts = RING_SORTS + (("t", (), ("u",)),)
        heads = RING_HEADS + (("holds", "t", ("s",)),)
        told = {**RING_TOLD, ("holds", (-1, "u")): part(0, "u"), ("holds", (0, "d")): ONE}
        book = book_with(100, sorts, heads, lambda bare, form, key: told[(form[0], key)])
        watched = Watched(self, book, ("holds", (("one", (END,)),)), {})
        watched.refused_put(NoPlace, (1,), ("holds", (deep,)))
        watched.refused_put(NoPlace, (0, 1), ("holds", (deep,)))
        watched.refused_put(NoFit, (0,), ("holds", (deep,)))
        watched.refused_put(NoFit, (), deep)
        watched.refused_put(NoFit, (0, 0), ("holds", (END,)))
        watched.refused_put(TooGreat, (0, 0), deep)
        watched.refused_put(TooGreat, (0,), deep)
        watched.refused_ring((0,), ("bend", (tower(58, "one", "loop"),)))

    def test_downs_at_the_place_are_not_new(self):
        """At the place the part's e reads the part's u: it is reckoned anew only where u has another worth."""
        told = {
            ("f", (-1, "u")): part(0, "u"), ("f", (0, "d")): own("d"), ("f", (0, "e")): part(0, "u"),
            ("g", (-1, "u")): own("d"), ("h", (-1, "u")): ("plus", own("d"), ONE), ("f", (-1, "v")): part(0, "v"),
            ("g", (-1, "v")): own("e"), ("h", (-1, "v")): own("e"), ("i", (-1, "u")): own("d"), ("i", (-1, "v")): ONE,
        }
        heads = (("f", "s", ("s",)), ("g", "s", ()), ("h", "s", ()), ("i", "s", ()))
        book = book_with(50, (("s", ("d", "e"), ("u", "v")),), heads, lambda bare, form, key: told[(form[0], key)])
        watched = Watched(self, book, ("f", (("g", ()),)), {"d": 4, "e": 0})
        self.assertCountEqual(watched.put((0,), ("g", ())), [((0,), "u"), ((0,), "v")])
        self.assertCountEqual(watched.put((0,), ("i", ())), [((0,), "u"), ((0,), "v"), ((), "v")])
        told = watched.put((0,), ("h", ()))
        self.assertCountEqual(told, [((0,), "u"), ((0,), "v"), ((0,), "e"), ((), "u"), ((), "v")])
        self.assertEqual(watched.kept.why(((0,), "e")), [((0,), "u"), ((0,), "e")])
        self.assertEqual(watched.kept.why(((0,), "v")), [((0,), "v")])
        self.assertEqual(watched.kept.why(((), "v")), [((0,), "v"), ((), "v")])
        watched.back()
        watched.back()


class GiveTest(unittest.TestCase):

    def test_what_reads_it_is_reckoned_anew(self):
        watched = row_kept(self, SAME, SAME)
        told = watched.give("step", 5)
        self.assertEqual(set(told), {((1,), "step"), ((1, 1), "step"), ((1,), "from"), ((1, 1), "from"), ((1, 0), "at"),
                                     ((1, 0), "val"), ((1, 1), "to"), ((1,), "to"), ((), "to"), ((1,), "sum"), ((), "sum")})
        self.assertEqual(watched.kept.worth(((), "sum")), 3 + 8)
        why = watched.kept.why(((), "to"))
        self.assertEqual(why[0], ((), "step"))
        self.assertIsNone(watched.kept.why(((), "step")))
        self.assertIsNone(watched.kept.why(((0,), "val")))

    def test_what_changes_nothing(self):
        watched = row_kept(self, SAME, SAME)
        self.assertEqual(watched.give("step", 4), [])
        self.assertEqual(watched.give("step", 4 + 1000003), [])
        self.assertEqual(watched.kept.given(), {"from": 3, "step": 1000007})
        self.assertEqual(watched.give("step", 4 - 1000003 * 10 ** 20), [])
        self.assertEqual(watched.back(), [])
        self.assertEqual(watched.kept.given(), {"from": 3, "step": 1000007})
        watched.back()
        watched.back()
        watched.refused(NoChange, watched.kept.back)

    def test_a_down_that_nothing_reads(self):
        watched = row_kept(self)
        self.assertEqual(watched.give("step", 77), [])
        self.assertEqual(watched.kept.worth(((), "step")), 77)
        self.assertEqual(watched.give("from", 77), [((), "to")])

    def test_a_change_that_dies_out_on_the_way(self):
        told = {("f", (-1, "u")): part(0, "u"), ("f", (0, "d")): ("least", own("d"), ("num", 5)), ("g", (-1, "u")): own("d")}
        book = book_with(100, (("s", ("d",), ("u",)),), (("f", "s", ("s",)), ("g", "s", ())),
                         lambda bare, form, key: told[(form[0], key)])
        watched = Watched(self, book, tower(4, "f", "g"), {"d": 7})
        self.assertEqual(watched.give("d", 9), [((0,), "d")])
        self.assertEqual(watched.kept.why(((0,), "d")), [((), "d"), ((0,), "d")])
        self.assertEqual(len(watched.give("d", 4)), 7)
        self.assertEqual(len(watched.kept.why(((), "u"))), 8)
        self.assertEqual(len(watched.back()), 7)

    def test_no_given(self):
        watched = row_kept(self, SAME)
        for word in ("", "to", "sum", "at", "From", "from ", "nowhere", "top"):
            for number in (0, 1, None):
                watched.refused_give(word, number)
        for thing in NO_NUMBERS:
            watched.refused_give("from", thing)
            watched.refused_give("step", thing)
            watched.refused_give("nowhere", thing)

    def test_thirty_figures(self):
        watched = row_kept(self, SAME)
        for number in (10 ** 30 - 1, 1 - 10 ** 30, 10 ** 29, -1, 0):
            watched.give("from", number)
            self.assertEqual(watched.kept.given()["from"], number)
            self.assertEqual(watched.kept.worth(((), "from")), number % 1000003)

    def test_behind_a_put_at_the_top(self):
        watched = row_kept(self, SAME)
        watched.give("from", 9)
        watched.put((), row(SQUARED, SQUARED))
        self.assertEqual(watched.kept.given(), {"from": 9, "step": 4})
        watched.give("step", 1)
        for _ in range(3):
            watched.back()
        self.assertEqual(watched.kept.given(), {"from": 3, "step": 4})


class BackTest(unittest.TestCase):

    def test_again_and_again_until_no_change(self):
        watched = row_kept(self, SAME)
        watched.refused(NoChange, watched.kept.back)
        watched.put((1,), row(SQUARED))
        watched.give("from", 10)
        watched.put((0,), SQUARED)
        watched.give("step", 10)
        for _ in range(4):
            watched.back()
        watched.refused(NoChange, watched.kept.back)
        watched.refused(NoChange, watched.kept.back)
        self.assertEqual(watched.kept.tree(), row(SAME))

    def test_what_is_taken_back_is_not_taken_back_again(self):
        watched = row_kept(self, SAME)
        watched.give("from", 10)
        watched.give("from", 20)
        watched.back()
        self.assertEqual(watched.kept.given()["from"], 10)
        watched.give("from", 30)
        watched.back()
        watched.back()
        self.assertEqual(watched.kept.given()["from"], 3)
        watched.refused(NoChange, watched.kept.back)
        watched.put((0,), SQUARED)
        watched.back()
        watched.refused(NoChange, watched.kept.back)

    def test_refused_changes_are_not_taken_back(self):
        watched = row_kept(self, SAME)
        watched.put((0,), SQUARED)
        watched.refused_put(NoFit, (0,), NONE)
        watched.refused_put(NoPlace, (5,), NONE)
        watched.refused_give("from", None)
        watched.back()
        self.assertEqual(watched.kept.tree(), row(SAME))
        watched.refused(NoChange, watched.kept.back)

    def test_what_a_back_reckons_anew(self):
        watched = row_kept(self, SAME, SAME)
        watched.put((1,), NONE)
        told = watched.back()
        self.assertLessEqual(new_by_the_words(ROW_BOOK, row(SAME, SAME), (1,)), set(told))
        self.assertIn(((), "sum"), told)
        self.assertNotIn(((1,), "from"), told)
        self.assertEqual(watched.kept.why(((1, 0), "at")), [((1, 0), "at")])
        watched.give("from", 4)
        self.assertEqual(watched.back()[0], ((0,), "at"))
        self.assertEqual(watched.kept.why(((0,), "at")), [((), "from"), ((0,), "at")])

    def test_a_refusal_leaves_why_as_it_was(self):
        watched = Watched(self, RING_BOOK, ("bend", (END,)), {"d": 1})
        watched.give("d", 2)
        watched.put((0,), ("one", (END,)))
        before = {spot: watched.kept.why(spot) for spot in watched.kept.worths()}
        watched.refused_ring((0, 0), LOOP)
        watched.refused_put(NoPlace, (1,), LOOP)
        watched.refused_give("d", "2")
        self.assertEqual({spot: watched.kept.why(spot) for spot in watched.kept.worths()}, before)
        self.assertTrue(any(why is not None for why in before.values()))


class OwnTest(unittest.TestCase):
    """Point 2: what is handed in, and what is told."""

    def test_what_was_handed_in_is_changed_afterwards(self):
        given = {"from": 3, "step": 4}
        kept = Kept(ROW_BOOK, row(SAME), given)
        given["from"] = 100
        given.pop("step")
        given["other"] = 1
        self.assertEqual(kept.given(), {"from": 3, "step": 4})
        self.assertEqual(kept.worth(((), "to")), 7)
        kept.give("from", 4)
        kept.back()
        self.assertEqual(kept.given(), {"from": 3, "step": 4})
        self.assertEqual(given, {"from": 100, "other": 1})

    def test_what_was_told_is_changed_afterwards(self):
        watched = row_kept(self, SAME, SAME)
        for told in (watched.put((1, 0), SQUARED), watched.give("from", 8), watched.back()):
            told.clear()
            told.append("spoilt")
        watched.looked_at()
        watched.give("step", 1)
        watched.kept.given().clear()
        watched.kept.worths().clear()
        for spot in watched.kept.worths():
            why = watched.kept.why(spot)
            if why is not None:
                why.clear()
        watched.looked_at()
        watched.back()
        watched.kept.given()["from"] = 1000
        watched.kept.worths()[((), "sum")] = 1000
        watched.give("from", 5)
        watched.back()
        watched.back()

    def test_the_field_of_ring_is_the_askers_own(self):
        watched = Watched(self, RING_BOOK, ("bend", (END,)), {"d": 1})
        for _ in range(2):
            with self.assertRaises(Ring) as caught:
                watched.kept.put((0,), LOOP)
            self.assertTrue(is_ring_by_the_words(all_reads(RING_BOOK, ("bend", (LOOP,))), caught.exception.ring))
            caught.exception.ring.clear()
        watched.looked_at()

    def test_two_kept_trees_by_turns(self):
        given = {"from": 3, "step": 4}
        one = Watched(self, ROW_BOOK, row(SAME, SAME), given)
        other = Watched(self, ROW_BOOK, row(SAME, SAME), given)
        one.put((0,), SQUARED)
        other.looked_at()
        other.give("from", 6)
        one.looked_at()
        one.give("from", 7)
        other.put((1,), NONE)
        one.back()
        other.looked_at()
        other.back()
        other.back()
        one.back()
        for watched in (one, other):
            watched.refused(NoChange, watched.kept.back)


class ManyChangesTest(unittest.TestCase):

    def one_change(self, chance, watched):
        """A random change of a kept tree, refused or not; told is which it was."""
        book, tree = watched.book, watched.tree
        turn = chance.random()
        if turn < 0.3 and watched.stack:
            watched.back()
            return "back"
        if turn < 0.45 and watched.given:
            word = chance.choice(list(watched.given))
            watched.give(word, chance.choice((0, 1, watched.given[word] % book[0], chance.randrange(-99, 10 ** 12))))
            return "give"
        places = sorted({spot[0] for spot in all_spots(book, tree)}) or [()]
        place = chance.choice(places)
        bough = random_tree(chance, book, chance.choice(list(fewest_places(book))), chance.choice((1, 3, 6, 57)))
        if form_at(book, bough, ())[1] != form_at(book, tree, place)[1]:
            watched.refused_put(NoFit, place, bough)
            return "NoFit"
        made = put_by_the_words(tree, place, bough)
        if size(made) > 60:
            watched.refused_put(TooGreat, place, bough)
            return "TooGreat"
        if hanging(all_reads(book, made)):
            watched.refused_ring(place, bough)
            return "Ring"
        watched.put(place, bough)
        return "put"

    def test_random_changes(self):
        seen = {}
        for number, (book, tree, given) in enumerate(books_with_trees(200, 9)):
            if size(tree) <= 60 and not hanging(all_reads(book, tree)):
                chance, watched = random.Random(number), Watched(self, book, tree, given)
                for _ in range(12):
                    kind = self.one_change(chance, watched)
                    seen[kind] = seen.get(kind, 0) + 1
        for kind in ("back", "give", "NoFit", "TooGreat", "Ring", "put"):
            self.assertGreater(seen.get(kind, 0), 5, seen)

    def test_two_hundred_changes(self):
        chance = random.Random(5)
        watched = row_kept(self, SAME, SQUARED)
        for k in range(200):
            if k % 3:
                depth = chance.randrange(len(row_places(watched.tree)))
                cells = [chance.choice((SAME, SQUARED)) for _ in range(chance.randrange(4))]
                watched.put((1,) * depth, row(*cells))
            else:
                watched.give(chance.choice(("from", "step")), chance.randrange(-50, 50))
        self.assertEqual(len(watched.stack), 200)
        for _ in range(200):
            watched.back()
        watched.refused(NoChange, watched.kept.back)
        self.assertEqual(watched.kept.tree(), row(SAME, SQUARED))

    def test_a_long_way(self):
        watched = Watched(self, long_book(), tower(60), {"p": 1, "q": 2, "r": 3})
        told = watched.give("r", 4)
        self.assertEqual(len(told), 357)
        self.assertEqual(len(watched.kept.why(((), "z"))), 358)
        watched.back()
        self.assertEqual(len(watched.put((0,) * 59, ("end", ()))), 3)

    def test_books_made_straight(self):
        many = 0
        for number, (book, tree, given) in enumerate(books_with_trees(200, 9)):
            try:
                made = made_straight(book)
            except (Tangled, TooGreat):
                continue
            if size(tree) <= 60 and not hanging(all_reads(made, tree)):
                many += 1
                chance, watched = random.Random(number), Watched(self, made, tree, given)
                for _ in range(3):
                    self.one_change(chance, watched)
        self.assertGreater(many, 20)

    def test_without_a_wheel(self):
        tree = ("join", (("leaf", (("ab", ()),)), ("leaf", (("more", (("ab", ()),)),))))
        watched = Watched(self, LEVEL_BOOK, tree, {})
        told = watched.put((1, 0, 0), ("more", (("ab", ()),)))
        self.assertEqual(told, [((1, 0, 0, 0), "long"), ((1, 0, 0), "long"), ((1, 0), "long"), ((1,), "size"), ((), "size")])
        self.assertEqual(watched.kept.worth(((), "size")), 2 + 18)
        watched.refused_give("size", 1)
        watched.back()


def row_places(tree):
    return [tree] + (row_places(tree[1][1]) if tree[1] else [])


if __name__ == "__main__":
    unittest.main()
