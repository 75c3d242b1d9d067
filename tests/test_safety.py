"""Points 19, 20 and 4: safe tables of hangs, and what is told of a whole book."""

import copy
import itertools
import random
import unittest

from boughworth.errors import BoughError, Tangled, TooGreat
from boughworth.hangs import hang_of
from boughworth.safety import is_safe, order_for_all
from boughworth.straight import made_straight
from boughworth.trees import is_tree
from example_books import LEVEL_BOOK, ROW_BOOK, book_with, full_book, own, part, readable, sum_of
from example_trees import (
    all_reads, come_to, fewest_places, hanging, is_ring_by_the_words, paper_looked_at, random_book, readings_in_order,
    size, trees_by_the_words,
)
from examples import ONE


def safe_by_the_words(book, table):
    """Point 19 word by word."""
    sorts = {name: (downs, ups) for name, downs, ups in book[1]}
    grown = fewest_places(book)
    if set(table) != set(grown):
        return False
    for sort, hangs in table.items():
        if not 1 <= len(hangs) <= 12:
            return False
        for hang in hangs:
            if any(down not in sorts[sort][0] or up not in sorts[sort][1] for down, up in hang):
                return False
            if len(set(hang)) != len(hang) or list(hang) != sorted(hang):
                return False
    for form in book[2]:
        if all(one in grown for one in form[2]):
            if not all(closed(book, sorts, form, choice, table) for choice in
                       itertools.product(*[table[one] for one in form[2]])):
                return False
    return True


def closed(book, sorts, form, choice, table):
    reads = {(-1, word): [] for word in sum(sorts[form[1]], ())}
    for k, (one, hang) in enumerate(zip(form[2], choice)):
        for word in sum(sorts[one], ()):
            reads[(k, word)] = [(k, down) for down, up in hang if up == word]
    for at, word, formula in form[3]:
        reads[(at, word)] = [(-1, one[1]) if one[0] == "own" else one[1:] for one in readings_in_order(formula)]
    reached = come_to(reads)
    if any(one in reached[one] for one in reads):
        return False
    downs, ups = sorts[form[1]]
    pairs = {(down, up) for down in downs for up in ups if (-1, down) in reached[(-1, up)]}
    return any(pairs <= set(hang) for hang in table[form[1]])


def book_of(sorts, told, wheel=9):
    """told is a dict from (form, sort, parts) to a dict from keys to formulas; all other rules are numbers."""
    by_name = {head[0]: rules for head, rules in told.items()}
    return book_with(wheel, sorts, tuple(told), lambda bare, form, key: by_name[form[0]].get(key, ONE))


D, U = (-1, "d"), (-1, "u")
S = (("s", ("d",), ("u",)),)
DU = (("d", "u"),)
# Handed down and told up again; only g brings an up to a down.
PIPE = book_of(S, {("f", "s", ("s",)): {U: part(0, "u"), (0, "d"): own("d")}, ("g", "s", ()): {U: own("d")}})
# In f a part's down waits for the part's up: a ring where that hangs on the down.
CLOSING = {("f", "s", ("s",)): {U: ONE, (0, "d"): part(0, "u")}}
LEAF, QUIET = ("g", "s", ()), ("h", "s", ())

# Two downs and two ups, and leaves of unlike hangs; both parts' hangs are told up crosswise.
TWO = (("s", ("d", "e"), ("u", "v")),)
DU_EV, DV_EU = (("d", "u"), ("e", "v")), (("d", "v"), ("e", "u"))
CROSS = book_of(TWO, {
    ("cross", "s", ("s",)): {U: part(0, "v"), (-1, "v"): part(0, "u"), (0, "d"): own("d"), (0, "e"): own("e")},
    ("leaf", "s", ()): {U: own("d"), (-1, "v"): own("e")},
})


class IsSafeTest(unittest.TestCase):

    def told(self, book, table, due):
        paper_looked_at(self, is_safe, safe_by_the_words, book, table, due)

    def test_safe(self):
        self.told(PIPE, {"s": [DU]}, True)
        self.told(CROSS, {"s": [DU_EV, DV_EU]}, True)
        self.told(CROSS, {"s": [DV_EU, DU_EV]}, True)
        self.told(LEVEL_BOOK, {"tree": [()], "word": [()]}, True)
        self.told(ROW_BOOK, {"row": [(("from", "sum"), ("from", "to"), ("step", "sum"), ("step", "to"))],
                             "cell": [(("at", "val"),)]}, True)

    def test_more_hangs_than_need_be(self):
        self.told(PIPE, {"s": [(), DU]}, True)
        self.told(PIPE, {"s": [DU, ()]}, True)
        self.told(CROSS, {"s": [DU_EV, DV_EU, (), (("d", "u"),), (("d", "v"),), (("e", "u"),)]}, True)
        # One more hang that stands alone, and its crosswise image is missing.
        both = (("d", "u"), ("d", "v"))
        self.told(CROSS, {"s": [DU_EV, DV_EU, both]}, True)
        self.told(CROSS, {"s": [DU_EV, DV_EU, (("d", "u"), ("e", "u"))]}, False)

    def test_a_hang_twice(self):
        self.told(PIPE, {"s": [DU, DU]}, True)
        self.told(CROSS, {"s": [DU_EV, DV_EU, DU_EV]}, True)
        self.told(PIPE, {"s": [(), ()]}, False)

    def test_more_pairs_than_any_tree_has(self):
        every = (("d", "u"), ("d", "v"), ("e", "u"), ("e", "v"))
        self.told(CROSS, {"s": [every]}, True)
        self.told(CROSS, {"s": [every, DU_EV]}, True)
        quiet = book_of(S, {LEAF: {}, **CLOSING})
        self.told(quiet, {"s": [()]}, True)
        self.told(quiet, {"s": [DU]}, False)
        self.told(quiet, {"s": [(), DU]}, False)

    def test_pairs_in_none_of_the_hangs(self):
        self.told(PIPE, {"s": [()]}, False)
        self.told(CROSS, {"s": [DU_EV]}, False)
        self.told(CROSS, {"s": [DV_EU]}, False)
        # All pairs there, but not in one hang.
        self.told(CROSS, {"s": [(("d", "u"),), (("e", "v"),), DV_EU]}, False)
        self.told(CROSS, {"s": [(("d", "u"),), (("e", "v"),), (("d", "v"),), (("e", "u"),)]}, False)

    def test_sorts(self):
        book = book_of(S + (("t", ("d",), ("u",)), ("none", ("d",), ("u",))), {
            LEAF: {U: own("d")}, ("k", "t", ()): {}, ("l", "none", ("none",)): {U: own("d")},
        })
        self.told(book, {"s": [DU], "t": [()]}, True)
        self.told(book, {"s": [DU], "t": [DU]}, True)
        for table in ({"s": [DU]}, {"t": [()]}, {}, {"s": [DU], "t": [()], "none": [()]}, {"s": [DU], "t": []},
                      {"s": [], "t": [()]}, {"s": [DU], "t": [()], "other": [()]}, {"s": [DU], "none": [()]},
                      {"s": [DU], "T": [()]}, {"s": [DU], "t": [()], "": []}, {"s": [DU], "t": [()], "none": []}):
            self.told(book, table, False)

    def test_no_sort_is_grown(self):
        book = book_of(S, {("f", "s", ("s",)): {U: own("u")}})
        self.told(book, {}, True)
        self.told(book, {"s": [()]}, False)
        self.told(book, {"s": []}, False)

    def test_hangs(self):
        for hang in ((("d", "d"),), (("u", "d"),), (("u", "u"),), (("d", "x"),), (("x", "u"),), (("", ""),), (("D", "u"),),
                     DU + DU, DU * 3, DU + (("d", "x"),)):
            self.told(PIPE, {"s": [hang]}, False)
            self.told(PIPE, {"s": [DU, hang]}, False)
            self.told(PIPE, {"s": [hang, DU]}, False)
        for hang in (DU_EV[::-1], DU_EV + DU_EV, DU_EV[:1] * 2 + DU_EV[1:], DU_EV + DU_EV[:1]):
            self.told(CROSS, {"s": [hang, DU_EV, DV_EU]}, False)
            self.told(CROSS, {"s": [DU_EV, DV_EU, hang]}, False)

    def test_sorted_as_python_sorts(self):
        sorts = (("s", ("b", "a"), ("z", "y")),)
        book = book_of(sorts, {LEAF: {}})
        self.told(book, {"s": [(("a", "y"), ("a", "z"), ("b", "y"), ("b", "z"))]}, True)
        self.told(book, {"s": [(("b", "z"), ("b", "y"), ("a", "z"), ("a", "y"))]}, False)
        self.told(book, {"s": [(("a", "y"), ("b", "y"), ("a", "z"))]}, False)
        self.told(book, {"s": [(("a", "z"), ("a", "y"))]}, False)

    def test_rings(self):
        ring = book_of(S, {LEAF: {U: own("d")}, **CLOSING})
        for table in ({"s": [DU]}, {"s": [()]}, {"s": [(), DU]}):
            self.told(ring, table, False)
        within_rules = book_of(S, {LEAF: {U: own("u")}})
        for table in ({"s": [DU]}, {"s": [()]}):
            self.told(within_rules, table, False)

    def test_a_ring_by_one_choice_for_several_parts(self):
        """Part 0's down waits for part 1's up, and that down for part 0's up: a ring where both hang."""
        sorts = S + (("t", (), ()),)
        book = book_of(sorts, {
            ("f", "t", ("s", "s")): {(0, "d"): part(1, "u"), (1, "d"): part(0, "u")}, LEAF: {},
        })
        self.told(book, {"s": [()], "t": [()]}, True)
        self.told(book, {"s": [DU], "t": [()]}, False)
        self.told(book, {"s": [(), DU], "t": [()]}, False)
        unlike = book_of((("s", ("d",), ("u",)), ("r", ("d",), ("u",)), ("t", (), ())), {
            ("f", "t", ("s", "r")): {(0, "d"): part(1, "u"), (1, "d"): part(0, "u")}, LEAF: {}, ("i", "r", ()): {},
        })
        for s, r, due in (([()], [()], True), ([DU], [()], True), ([()], [DU], True), ([DU], [DU], False),
                          ([(), DU], [()], True), ([(), DU], [(), DU], False)):
            self.told(unlike, {"s": s, "r": r, "t": [()]}, due)

    def test_the_pairs_of_three_parts_together(self):
        three = book_of((("s", ("d", "e"), ("u", "v")), ("t", ("d", "e"), ("u", "v"))), {
            ("f", "t", ("s", "s", "s")): {
                U: ("plus", part(0, "u"), part(1, "v")), (-1, "v"): part(2, "u"),
                (0, "d"): own("d"), (1, "d"): own("d"), (1, "e"): own("e"), (2, "d"): own("e"),
            },
            ("g", "s", ()): {U: own("d")}, ("h", "s", ()): {(-1, "v"): own("e")},
        })
        due = [(("d", "u"), ("e", "u"), ("e", "v"))]
        s = [(("d", "u"),), (("e", "v"),)]
        self.told(three, {"s": s, "t": due}, True)
        for fewer in ([(("d", "u"), ("e", "u"))], [(("d", "u"), ("e", "v")), (("e", "u"), ("e", "v"))]):
            self.told(three, {"s": s, "t": fewer}, False)

    def test_forms_that_are_not_live_are_not_asked(self):
        sorts = S + (("none", (), ()),)
        for rules in ({U: own("u")}, {U: own("d")}, {U: part(0, "d"), (0, "d"): own("d")}, {(0, "d"): part(0, "d")}):
            book = book_of(sorts, {LEAF: {}, ("f", "s", ("s", "none")): rules})
            self.told(book, {"s": [()]}, True)
            live = book_of(sorts, {LEAF: {}, ("f", "s", ("s", "none")): rules, ("k", "none", ()): {}})
            self.told(live, {"s": [()], "none": [()]}, False)

    def test_twelve_hangs_and_more(self):
        downs, ups = ("p", "q", "r"), ("x", "y", "z")
        pairs = sorted(itertools.product(downs, ups))
        chance = random.Random(11)
        fours = sorted(chance.sample(list(itertools.combinations(pairs, 4)), 13))
        quiet = {("f", "s", ("s", "s", "s")): {(2, "p"): ("plus", part(0, "x"), part(1, "y")), (1, "q"): part(0, "z")},
                 LEAF: {}}
        book = book_of((("s", downs, ups),), quiet)
        self.told(book, {"s": fours[:12]}, True)
        self.told(book, {"s": fours[:1] * 12}, True)
        self.told(book, {"s": fours}, False)
        self.told(book, {"s": fours[:1] * 13}, False)
        closing = dict(quiet)
        closing[("e", "s", ("s",))] = {(0, "p"): part(0, "x"), (0, "q"): part(0, "y"), (0, "r"): part(0, "z")}
        bad = [hang for hang in fours if any(pair in hang for pair in zip(downs, ups))]
        good = [hang for hang in fours if hang not in bad]
        self.assertTrue(bad)
        for hangs in (fours[:12], fours[1:], good[:12] + bad[:1]):
            self.told(book_of((("s", downs, ups),), closing), {"s": hangs}, False)

    def test_ten_forms_of_three_parts_by_twelve_hangs(self):
        downs, ups = ("p", "q", "r"), ("x", "y", "z")
        hangs = list(itertools.combinations(sorted(itertools.product(downs, ups)), 2))[:12]
        told = {("f" + letter, "s", ("s", "s", "s")): {(2, "p"): part(0, "x"), (1, "q"): part(0, "z")}
                for letter in "abcdefghi"}
        self.assertIs(is_safe(book_of((("s", downs, ups),), {**told, LEAF: {}}), {"s": hangs}), True)

    def test_as_the_words_tell(self):
        """Tables of the hangs of small trees, and others made of them by small changes."""
        seen = {True: 0, False: 0}
        for seed in range(150):
            chance, book = random.Random(seed), random_book(seed, 0.3)
            table = {}
            for sort in fewest_places(book):
                table[sort] = self.hangs_of_small_trees(book, sort) or [()]
            for _ in range(6):
                due = safe_by_the_words(book, table)
                seen[due] += 1
                self.assertIs(is_safe(book, table), due)
                if not table:
                    break
                sort = chance.choice(sorted(table))
                table = {**table, sort: self.changed(chance, book, sort, table[sort])}
        self.assertGreater(min(seen.values()), 150, seen)

    def hangs_of_small_trees(self, book, sort):
        hangs = set()
        for many in range(1, 5):
            for tree in trees_by_the_words(book, sort, many)[:40]:
                if not hanging(all_reads(book, tree)):
                    hangs.add(hang_of(book, tree))
        return sorted(hangs)[:12]

    def changed(self, chance, book, sort, hangs):
        downs, ups = [one[1:] for one in book[1] if one[0] == sort][0]
        pairs = sorted(itertools.product(downs, ups))
        hang = tuple(pair for pair in pairs if chance.random() < 0.5)
        kind = chance.randrange(5)
        if kind == 0:
            return hangs[1:]
        if kind == 1:
            return [tuple(sorted(set(one) | set(hang))) for one in hangs]
        if kind == 2:
            return hangs[:-1] + [hang]
        return (hangs + [hang])[:12]


class OrderForAllTest(unittest.TestCase):

    def told(self, book):
        before = copy.deepcopy(book)
        told = order_for_all(book)
        self.assertIsInstance(told, tuple)
        self.assertEqual(order_for_all(book), told)
        self.assertEqual(book, before)
        return told

    def safe(self, book):
        told = self.told(book)
        self.assertEqual((told[0], len(told)), ("safe", 2))
        self.assertIs(safe_by_the_words(book, told[1]), True)
        self.assertIs(is_safe(book, told[1]), True)
        return told[1]

    def ring(self, book, places):
        told = self.told(book)
        self.assertEqual((told[0], len(told)), ("ring", 3))
        kind, tree, ring = told
        self.assertIs(is_tree(book, tree), True)
        self.assertEqual(size(tree), places)
        self.assertTrue(is_ring_by_the_words(all_reads(book, tree), ring))
        return tree

    def too_great(self, book):
        for wider in (TooGreat, BoughError, ValueError):
            with self.assertRaises(wider):
                order_for_all(book)

    def test_safe(self):
        self.assertEqual(self.safe(PIPE), {"s": [DU]})
        table = self.safe(CROSS)
        self.assertCountEqual(table["s"], [DU_EV, DV_EU])
        self.assertEqual(self.safe(LEVEL_BOOK), {"tree": [()], "word": [()]})
        self.safe(ROW_BOOK)
        self.safe(made_straight(ROW_BOOK))

    def test_a_ring_at_one_place(self):
        self.assertEqual(self.ring(book_of(S, {("f", "s", ("s",)): {}, LEAF: {U: own("u")}}), 1), ("g", ()))

    def test_a_ring_at_two_places(self):
        self.assertEqual(self.ring(book_of(S, {**CLOSING, LEAF: {U: own("d")}}), 2), ("f", (("g", ()),)))
        # Not beneath h, which is as great as g.
        self.assertEqual(self.ring(book_of(S, {**CLOSING, QUIET: {}, LEAF: {U: own("d")}}), 2), ("f", (("g", ()),)))

    def test_the_fewest_places_of_several(self):
        """A ring at two leaves by three places, at one leaf by two; which stands first in the book does not matter."""
        forms = {
            ("many", "t", ("s", "s")): {(0, "d"): part(1, "u"), (1, "d"): part(0, "u")},
            ("few", "t", ("s",)): {(0, "d"): part(0, "u")}, LEAF: {U: own("d")},
        }
        sorts = S + (("t", (), ()),)
        for heads in itertools.permutations(forms):
            told = {head: forms[head] for head in heads}
            self.assertEqual(self.ring(book_of(sorts, told), 2), ("few", (("g", ()),)))
            told.pop(("few", "t", ("s",)))
            self.assertEqual(self.ring(book_of(sorts, told), 3), ("many", (("g", ()), ("g", ()))))

    def test_a_greater_leaf_may_be_the_one_with_the_ring(self):
        """Only the tree by way of a long row brings the up to the down."""
        sorts = (("s", ("d",), ("u",)), ("r", (), ()), ("q", (), ()))
        book = book_of(sorts, {
            ("f", "q", ("s",)): {(0, "d"): part(0, "u")}, ("g", "s", ()): {}, ("far", "s", ("r",)): {U: own("d")},
            ("a", "r", ("q", "q", "q")): {}, ("end", "q", ()): {},
        })
        self.assertEqual(self.ring(book, 6), ("f", (("far", (("a", (("end", ()),) * 3),)),)))

    # Of the sorts a, b, c, d the least trees have 1, 4, 13 and 40 places; a alone has worths. A step takes a tree of a
    # and another one, of as many places as shall be added.
    great_sorts = (("a", ("p", "q"), ("x", "y", "z")), ("b", (), ()), ("c", (), ()), ("d", (), ()))

    def great_book(self, step_parts, told, more=()):
        heads = {
            ("leaf", "a", ()): {(-1, "x"): own("p")}, ("step", "a", step_parts): told,
            ("fb", "b", ("a", "a", "a")): {}, ("fc", "c", ("b", "b", "b")): {}, ("fd", "d", ("c", "c", "c")): {},
        }
        heads.update(dict(more))
        return book_of(self.great_sorts, heads)

    onward = {(-1, "y"): part(0, "x"), (-1, "z"): part(0, "y"), (0, "p"): own("p")}

    def test_a_ring_at_many_places(self):
        """p hangs with x at the leaf, with y a step on, with z two steps on; there the ring closes."""
        close = {("close", "d", ("a",)): {(0, "p"): part(0, "z")}}
        for added, places in ((("a",), 4), (("a", "b"), 12), (("a", "c"), 30), (("a", "b", "c"), 38), (("a", "c", "c"), 56)):
            self.ring(self.great_book(added, self.onward, close), places)

    def test_a_ring_at_just_sixty_places_and_at_sixty_one(self):
        close = {("close", "d", ("a",)): {(0, "p"): part(0, "z")}}
        # A leaf, two steps of 27 places each, and one place more.
        self.ring(self.great_book(("a", "c", "c"), self.onward, close), 56)
        wider = {("close", "d", ("a", "b")): {(0, "p"): part(0, "z")}}
        self.ring(self.great_book(("a", "c", "c"), self.onward, wider), 60)
        widest = {("close", "d", ("a", "b", "a")): {(0, "p"): part(0, "z")}}
        self.too_great(self.great_book(("a", "c", "c"), self.onward, widest))

    def test_too_great_where_a_hang_comes_only_beyond_sixty_places(self):
        """No tree has a ring, but the third hang comes with 83 places; with fewer to add the table is found."""
        kept = {**self.onward, (-1, "x"): part(0, "x")}
        self.too_great(self.great_book(("a", "d"), kept))
        table = self.safe(self.great_book(("a", "c"), kept))
        self.assertIn((("p", "x"), ("p", "y"), ("p", "z")), table["a"])
        self.safe(self.great_book(("a", "c", "c"), kept))

    def test_rings_only_through_a_form_that_is_not_live(self):
        sorts = S + (("none", ("d",), ("u",)),)
        for rules in ({U: own("u")}, {(0, "d"): part(0, "u")}):
            told = {LEAF: {U: own("d")}, ("f", "s", ("s", "none")): rules, ("k", "none", ("none",)): {U: own("u")}}
            self.assertEqual(self.safe(book_of(sorts, told)), {"s": [DU]})
            told[("l", "none", ())] = {}
            self.assertEqual(self.told(book_of(sorts, told))[0], "ring")

    def test_no_sort_is_grown(self):
        self.assertEqual(self.safe(book_of(S, {("f", "s", ("s",)): {U: own("u")}})), {})

    def test_books_of_all_kinds_of_parts(self):
        self.assertIn(self.told(full_book())[0], ("safe", "ring"))

    def test_a_told_table_that_was_changed_changes_nothing(self):
        told = order_for_all(CROSS)
        told[1]["s"].clear()
        told[1]["t"] = []
        self.safe(CROSS)
        ringed = order_for_all(book_of(S, {LEAF: {U: own("u")}}))
        ringed[2].clear()
        self.ring(book_of(S, {LEAF: {U: own("u")}}), 1)

    def test_twelve_hangs(self):
        """Four leaves of unlike hangs, none of which lies within another one, and the ups turned about twice."""
        downs, ups = ("p", "q", "r"), ("x", "y", "z")
        told = {("turn", "s", ("s",)): {
            **{(-1, up): part(0, other) for up, other in zip(ups, "yzx")}, **{(0, down): own(down) for down in downs},
        }}
        for letter, (down, up) in zip("abcd", itertools.product("qr", "yz")):
            told[("leaf" + letter, "s", ())] = {(-1, "x"): own("p"), (-1, up): own(down)}
        book = book_of((("s", downs, ups),), told)
        table = self.safe(book)
        self.assertEqual((len(table["s"]), len(set(table["s"]))), (12, 12))
        # Where z hangs on q, which is so in some of them, a ring closes.
        close = {**told, ("close", "s", ("s",)): {(0, "q"): part(0, "z")}}
        self.ring(book_of((("s", downs, ups),), close), 2)

    def test_very_many_hangs_take_not_long(self):
        """Of these nothing is promised but what is told here, too: it bears itself out, or is refused with TooGreat."""
        downs, ups = ("p", "q", "r"), ("x", "y", "z")
        told = {("join", "s", ("s", "s", "s")): {
            **{(-1, up): sum_of([part(k, up) for k in range(3)]) for up in ups},
            **{(k, down): own(down) for k in range(3) for down in downs},
        }}
        for letter, (down, up) in zip("abcdefghi", itertools.product(downs, ups)):
            told[("leaf" + letter, "s", ())] = {(-1, up): own(down)}
            book = book_of((("s", downs, ups),), told)
            try:
                self.safe(book)
            except TooGreat:
                self.assertGreater(len(told), 4)

    def test_as_the_words_tell(self):
        """What is told bears itself out, and no tree of fewer places, or of up to so many, has a ring."""
        seen = {"safe": 0, "ring": 0}
        places = set()
        for seed in range(250):
            book = random_book(seed)
            told = self.told(book)
            seen[told[0]] += 1
            most = 4
            if told[0] == "ring":
                most = min(4, self.ring_places(book) - 1)
                places.add(size(told[1]))
            else:
                self.safe(book)
            for sort in fewest_places(book):
                for many in range(1, most + 1):
                    for tree in trees_by_the_words(book, sort, many)[:60]:
                        self.assertFalse(hanging(all_reads(book, tree)))
        self.assertGreater(min(seen.values()), 60, seen)
        self.assertGreater(len(places), 3)

    def ring_places(self, book):
        kind, tree, ring = order_for_all(book)
        self.ring(book, size(tree))
        return size(tree)

    def test_the_book_made_straight_tells_the_same(self):
        seen = {"safe": 0, "ring": 0}
        for seed in range(150):
            book = random_book(seed)
            try:
                made = made_straight(book)
            except (Tangled, TooGreat):
                continue
            one, other = self.told(book), self.told(made)
            self.assertEqual(one[0], other[0])
            seen[one[0]] += 1
            if one[0] == "ring":
                self.ring(made, size(one[1]))
            else:
                self.safe(made)
        self.assertGreater(min(seen.values()), 10, seen)

    def test_all_readings_at_once(self):
        sorts = (("s", ("p", "q", "r"), ("x", "y", "z")),)
        book = book_with(9, sorts, (("f", "s", ("s",)), ("g", "s", ())),
                         lambda bare, form, key: sum_of(readable(bare, form)[:8]))
        self.ring(book, 1)


if __name__ == "__main__":
    unittest.main()
