"""Points 26, 27 and 4: two plain books alike or parted, and the basis that bears it out."""

import copy
import itertools
import math
import random
import unittest
from fractions import Fraction

from boughworth.alikes import alike, bears_out
from boughworth.errors import BoughError, NoBuild, NoPlain, NoTree, NoWorth, TooGreat
from boughworth.straight import made_straight
from boughworth.trees import is_tree
from example_books import LEVEL_BOOK, ROW_BOOK, book_with, changed, part
from example_plain import row_by_the_words, two_plain_books
from example_trees import fewest_places, random_tree, size, tower, trees_by_the_words
from examples import ONE


def num(n):
    return ("num", n)


def ups_of(book, sort):
    return [ups for name, downs, ups in book[1] if name == sort][0]


def live(book):
    grown = fewest_places(book)
    return [form for form in book[2] if all(one in grown for one in form[2])]


def pair_of(one, other, sort, x, y, tree):
    """The two worths at the top that are to be the same."""
    row = row_by_the_words(one, other, tree)
    return row[1 + ups_of(one, sort).index(x)], row[1 + len(ups_of(one, sort)) + ups_of(other, sort).index(y)]


def sums_due(one, trees):
    """From each key that the sums of a basis have to its form and the trees that it is made of."""
    found = {}
    for form in live(one):
        for numbers in itertools.product(*[range(len(trees[sort])) for sort in form[2]]):
            parts = tuple(trees[sort][number] for sort, number in zip(form[2], numbers))
            found[(form[0],) + numbers] = (form[1], (form[0], parts))
    return found


def bears_out_by_the_words(one, other, sort, x, y, basis):
    trees, sums = basis
    if set(trees) != set(fewest_places(one)):
        return False
    sorts = {form[0]: form[1] for form in one[2]}
    for name, listed in trees.items():
        if len(listed) > 8 or any(sorts[tree[0]] != name or size(tree) > 60 for tree in listed):
            return False
    due = sums_due(one, trees)
    if set(sums) != set(due):
        return False
    for key, (name, tree) in due.items():
        rows = [row_by_the_words(one, other, inner) for inner in trees[name]]
        if len(sums[key]) != len(rows):
            return False
        if any(bottom < 1 or math.gcd(top, bottom) != 1 for top, bottom in sums[key]):
            return False
        row = row_by_the_words(one, other, tree)
        for column in range(len(row)):
            made = sum((Fraction(*pair) * other_row[column] for pair, other_row in zip(sums[key], rows)), Fraction(0))
            if made != row[column]:
                return False
    return all(len(set(pair_of(one, other, sort, x, y, tree))) == 1 for tree in trees[sort])


def solved(rows, row, free):
    """Fractions by which the rows make up the row, with what free() tells where there is a choice; None: there are none."""
    table = [[Fraction(other[column]) for other in rows] + [Fraction(row[column])] for column in range(len(row))]
    leads = []
    for column in range(len(rows)):
        found = [k for k in range(len(leads), len(table)) if table[k][column]]
        if found:
            at = len(leads)
            table[at], table[found[0]] = table[found[0]], table[at]
            table[at] = [number / table[at][column] for number in table[at]]
            for k in range(len(table)):
                if k != at:
                    table[k] = [a - table[k][column] * b for a, b in zip(table[k], table[at])]
            leads.append(column)
    if any(line[-1] for line in table[len(leads):]):
        return None
    told = [Fraction(free()) for _ in rows]
    for at, column in enumerate(leads):
        others = [k for k in range(len(rows)) if k not in leads]
        told[column] = table[at][-1] - sum((table[at][k] * told[k] for k in others), Fraction(0))
    return told


def basis_of_trees(one, other, trees, free=lambda: 0):
    """A basis of these trees, None where they are none."""
    sums = {}
    for key, (sort, tree) in sums_due(one, trees).items():
        rows = [row_by_the_words(one, other, inner) for inner in trees[sort]]
        told = solved(rows, row_by_the_words(one, other, tree), free)
        if told is None:
            return None
        sums[key] = [fraction.as_integer_ratio() for fraction in told]
    return trees, sums


def of_rules(told, sorts, heads):
    return book_with(0, sorts, heads, lambda bare, form, key: told[(form[0], key[1])])


CHAIN = (("end", "s", ()), ("one", "s", ("s",)))


def chain_book(ups, end, one):
    """A sort with these ups; end and one tell their formulas."""
    told = {("end", up): formula for up, formula in zip(ups, end)}
    told.update({("one", up): formula for up, formula in zip(ups, one)})
    return of_rules(told, (("s", (), tuple(ups)),), CHAIN)


def p(word, k=0):
    return part(k, word)


COUNT = chain_book("x", [num(0)], [("plus", p("x"), ONE)])
# v is n * (n - 1) / 2 of the number n of places beneath.
TRIANGLE = chain_book("vn", [num(0), num(0)], [("plus", p("v"), p("n")), ("plus", p("n"), ONE)])
# 0, 0, 0, 1, 4, 10 ..: parted from nothing by a tree of four places.
THREES = chain_book("tvn", [num(0)] * 3, [("plus", p("t"), p("v")), ("plus", p("v"), p("n")), ("plus", p("n"), ONE)])
ZERO = chain_book("z", [num(0)], [num(0)])


class AlikeTest(unittest.TestCase):

    def alike(self, one, other, sort, x, y):
        told = alike(one, other, sort, x, y)
        self.assertIsInstance(told, tuple)
        self.assertEqual((len(told), told[0]), (2, "alike"))
        self.assertIsInstance(told[1], tuple)
        self.assertIs(bears_out(one, other, sort, x, y, told[1]), True)
        self.assertTrue(bears_out_by_the_words(one, other, sort, x, y, told[1]))
        self.assertEqual(alike(one, other, sort, x, y), told)
        return told[1]

    def parted(self, one, other, sort, x, y, places=None):
        told = alike(one, other, sort, x, y)
        self.assertIsInstance(told, tuple)
        self.assertEqual((len(told), told[0]), (2, "parted"))
        self.assertTrue(is_tree(one, told[1]))
        self.assertEqual([form[1] for form in one[2] if form[0] == told[1][0]], [sort])
        self.assertEqual(len(set(pair_of(one, other, sort, x, y, told[1]))), 2)
        if places is not None:
            self.assertEqual(size(told[1]), places)
        self.assertEqual(alike(one, other, sort, x, y), told)
        return told[1]

    def refused(self, refusal, *asked):
        for wider in (refusal, BoughError):
            with self.subTest(asked=asked), self.assertRaises(wider) as caught:
                alike(*asked)
            self.assertIs(type(caught.exception), refusal)

    def test_a_book_and_itself(self):
        for book in (COUNT, TRIANGLE, THREES, ZERO):
            for up in ups_of(book, "s"):
                self.alike(book, book, "s", up, up)

    def test_two_ups_of_one_book(self):
        book = chain_book("xy", [num(3), num(3)], [("plus", p("x"), p("y")), ("times", num(2), p("x"))])
        self.alike(book, book, "s", "x", "y")
        self.parted(TRIANGLE, TRIANGLE, "s", "v", "n", 2)

    def test_ups_in_another_order_and_by_other_names(self):
        turned = chain_book("km", [num(0), num(0)], [("plus", p("k"), ONE), ("plus", p("m"), p("k"))])
        self.alike(TRIANGLE, turned, "s", "v", "m")
        self.alike(TRIANGLE, turned, "s", "n", "k")
        self.parted(TRIANGLE, turned, "s", "v", "k", 2)
        self.parted(TRIANGLE, turned, "s", "n", "m", 2)

    def test_told_otherwise(self):
        self.alike(COUNT, chain_book("y", [("less", num(5), num(5))], [("less", p("y"), num(-1))]), "s", "x", "y")
        self.alike(COUNT, TRIANGLE, "s", "x", "n")
        heads = (("a", "s", ()), ("f", "s", ("s", "t")), ("b", "t", ("s",)))
        sorts = (("s", (), ("x",)), ("t", (), ("y",)))
        one = of_rules({("a", "x"): num(2), ("b", "y"): ("plus", p("x"), ONE),
                        ("f", "x"): ("times", ("plus", p("x"), num(3)), p("y", 1))}, sorts, heads)
        other = of_rules({("a", "x"): ("plus", ONE, ONE), ("b", "y"): ("less", p("x"), num(-1)),
                          ("f", "x"): ("plus", ("times", p("y", 1), num(3)), ("times", p("y", 1), p("x")))}, sorts, heads)
        for sort, up in (("s", "x"), ("t", "y")):
            self.alike(one, other, sort, up, up)
        bent = changed(other, (2, 1, 3, 0, 2), ("plus", ("times", p("y", 1), num(2)), ("times", p("y", 1), p("x"))))
        self.parted(one, bent, "s", "x", "x", 4)
        self.parted(one, bent, "t", "y", "y", 5)

    def test_sums_that_need_fractions(self):
        """The form f tells 3, which is 3 halves of b's 2, and the 1 at the head less a half of both."""
        heads = (("a", "s", ()), ("b", "s", ()), ("f", "s", ("s",)))
        book = of_rules({("a", "x"): num(0), ("b", "x"): num(2), ("f", "x"): num(3)}, (("s", (), ("x",)),), heads)
        trees, sums = self.alike(book, book, "s", "x", "x")
        self.assertEqual(trees, {"s": [("a", ()), ("b", ())]})
        self.assertEqual(sums, {("a",): [(1, 1), (0, 1)], ("b",): [(0, 1), (1, 1)], ("f", 0): [(-1, 2), (3, 2)],
                                ("f", 1): [(-1, 2), (3, 2)]})

    def test_parted_by_one_place(self):
        self.parted(COUNT, chain_book("x", [ONE], [("plus", p("x"), ONE)]), "s", "x", "x", 1)
        self.parted(chain_book("x", [num(-999999)], [ONE]), chain_book("x", [num(999999)], [ONE]), "s", "x", "x", 1)

    def test_parted_by_many_places(self):
        self.parted(COUNT, ZERO, "s", "x", "z", 2)
        self.parted(TRIANGLE, ZERO, "s", "v", "z", 3)
        self.parted(THREES, ZERO, "s", "t", "z", 4)
        self.parted(ZERO, THREES, "s", "z", "t", 4)
        self.assertEqual(self.parted(THREES, ZERO, "s", "v", "z"), tower(3))

    def test_parted_by_seven_places(self):
        """As many as the row has numbers: both count a cube, of which the one goes on otherwise."""
        sixes = chain_book("tvn", [num(0), num(0), ONE], [p("v"), p("n"), ("times", num(2), p("n"))])
        others = chain_book("abc", [num(0), num(0), ONE], [p("b"), p("c"), ("plus", p("c"), p("b"))])
        self.parted(sixes, others, "s", "t", "a", 4)

    def test_parted_by_one_of_many_forms(self):
        """The form of three parts parts them, but only over the second leaf in its last place."""
        heads = (("a", "s", ()), ("b", "s", ()), ("f", "s", ("s", "s", "s")))
        told = {("a", "x"): num(0), ("b", "x"): ONE, ("f", "x"): num(5)}
        one = of_rules(told, (("s", (), ("x",)),), heads)
        other = of_rules({**told, ("f", "x"): ("plus", num(5), p("x", 2))}, (("s", (), ("x",)),), heads)
        tree = self.parted(one, other, "s", "x", "x", 4)
        self.assertEqual(tree[1][2], ("b", ()))

    def test_of_the_fewest_places_though_other_forms_stand_first(self):
        heads = (("w", "s", ("s", "s")), ("v", "s", ("s",)), ("a", "s", ()))
        told = {("w", "x"): ("plus", p("x"), ("plus", p("x", 1), ONE)), ("v", "x"): ("plus", p("x"), ONE), ("a", "x"): num(0)}
        one = of_rules(told, (("s", (), ("x",)),), heads)
        other = of_rules({key: num(0) for key in told}, (("s", (), ("x",)),), heads)
        self.assertEqual(self.parted(one, other, "s", "x", "x", 2), ("v", (("a", ()),)))

    def test_great_numbers(self):
        big = num(999999)
        seven = ("times", big, ("times", big, ("times", big, ("times", big, ("times", big, ("times", big, big))))))
        one = chain_book("xy", [seven, ONE], [("times", p("x"), p_product(big, 5)), ("plus", p("y"), p("x"))])
        self.alike(one, one, "s", "y", "y")
        other = chain_book("xy", [seven, ONE], [("times", p_product(big, 5), p("x")), ("plus", p("x"), p("y"))])
        self.alike(one, other, "s", "x", "x")
        bent = changed(other, (2, 1, 3, 1, 2), ("plus", ("plus", p("x"), ONE), p("y")))
        self.parted(one, bent, "s", "y", "y", 2)

    def test_sorts_that_are_not_grown_and_forms_that_are_not_live(self):
        heads = (("a", "s", ()), ("f", "s", ("t",)), ("g", "t", ("t",)), ("h", "t", ("s", "t")))
        sorts = (("s", (), ("x",)), ("t", (), ("y",)))
        told = {("a", "x"): ONE, ("f", "x"): p("y"), ("g", "y"): num(7), ("h", "y"): p("x")}
        one = of_rules(told, sorts, heads)
        other = of_rules({**told, ("f", "x"): num(3), ("g", "y"): num(8)}, sorts, heads)
        basis = self.alike(one, other, "s", "x", "x")
        self.assertEqual(basis, ({"s": [("a", ())]}, {("a",): [(1, 1)]}))
        self.refused(NoTree, one, other, "t", "y", "y")

    def test_books_that_differ_only_elsewhere(self):
        """Trees of s are never made of t, though t is made of s."""
        heads = (("a", "s", ()), ("f", "s", ("s",)), ("g", "t", ("s",)))
        sorts = (("s", (), ("x",)), ("t", (), ("y",)))
        told = {("a", "x"): num(0), ("f", "x"): ("plus", p("x"), ONE), ("g", "y"): p("x")}
        one = of_rules(told, sorts, heads)
        other = of_rules({**told, ("g", "y"): ("times", num(2), p("x"))}, sorts, heads)
        basis = self.alike(one, other, "s", "x", "x")
        self.assertEqual(set(basis[0]), {"s", "t"})
        self.parted(one, other, "t", "y", "y", 3)

    def test_sorts_without_ups(self):
        heads = (("a", "s", ()), ("f", "s", ("t", "s")), ("b", "t", ()), ("c", "t", ("t", "s")))
        told = {("a", "x"): num(0), ("f", "x"): ("plus", p("x", 1), ONE)}
        one = of_rules(told, (("s", (), ("x",)), ("t", (), ())), heads)
        self.assertEqual(self.alike(one, one, "s", "x", "x")[0]["t"], [("b", ())])
        self.refused(NoWorth, one, one, "t", "x", "x")

    def test_books_made_straight(self):
        self.alike(TRIANGLE, made_straight(TRIANGLE), "s", "v", "v")
        self.parted(made_straight(TRIANGLE), COUNT, "s", "v", "x", 2)

    def test_what_is_told_is_the_askers_own(self):
        first = alike(TRIANGLE, TRIANGLE, "s", "v", "v")
        keep = copy.deepcopy(first)
        first[1][0]["s"].clear()
        first[1][0].clear()
        for fractions in first[1][1].values():
            fractions.clear()
        first[1][1].clear()
        self.assertEqual(alike(TRIANGLE, TRIANGLE, "s", "v", "v"), keep)

    def test_random_books(self):
        seen = {}
        for seed in range(80):
            one, other = two_plain_books(seed, 7, (-1, 0, 1, 2))
            for sort in fewest_places(one):
                trees = [tree for places in range(1, 5) for tree in trees_by_the_words(one, sort, places)]
                for x, y in list(itertools.product(ups_of(one, sort), ups_of(other, sort)))[:3]:
                    parting = [tree for tree in trees if len(set(pair_of(one, other, sort, x, y, tree))) == 2]
                    told = alike(one, other, sort, x, y)[0]
                    if parting:
                        self.parted(one, other, sort, x, y, min(size(tree) for tree in parting))
                    elif told == "parted":
                        self.assertGreater(size(self.parted(one, other, sort, x, y)), 4)
                    else:
                        self.alike(one, other, sort, x, y)
                    seen[told] = seen.get(told, 0) + 1
        self.assertGreater(min(seen["alike"], seen["parted"]), 10, seen)

    def test_random_books_told_otherwise(self):
        """Each formula turned about: every worth is the same."""
        many = 0
        for seed in range(60):
            one = two_plain_books(seed, 7)[0]
            other = one[:2] + (tuple(form[:3] + (tuple(rule[:2] + (turned(rule[2]),) for rule in form[3]),)
                                     for form in one[2]),)
            for sort in fewest_places(one):
                for up in ups_of(one, sort):
                    self.alike(one, other, sort, up, up)
                    many += 1
        self.assertGreater(many, 60)


def p_product(big, many):
    made = big
    for _ in range(many - 1):
        made = ("times", made, big)
    return made


def turned(formula):
    if formula[0] in ("plus", "times"):
        return (formula[0], turned(formula[2]), turned(formula[1]))
    if formula[0] == "less":
        return ("less", turned(formula[1]), turned(formula[2]))
    return formula


# d needs three of c, c three of b, b three of a: 40 places at least, then 13 + 1 more for each add.
GREAT_SORTS = (("a", (), ()), ("b", (), ()), ("c", (), ()), ("d", (), ("x", "n")))
GREAT_HEADS = (("la", "a", ()), ("lb", "b", ("a",) * 3), ("lc", "c", ("b",) * 3), ("ld", "d", ("c",) * 3),
               ("add", "d", ("d", "c")))


def great_book(step, start=0):
    """x begins with the start and goes on by the step, n counts."""
    told = {("ld", "x"): num(start), ("ld", "n"): num(0), ("add", "x"): step, ("add", "n"): ("plus", p("n"), ONE)}
    return of_rules(told, GREAT_SORTS, GREAT_HEADS)


class TooGreatTest(unittest.TestCase):

    def too_great(self, *asked):
        for _ in range(2):
            with self.assertRaises(TooGreat):
                alike(*asked)

    def test_parted_by_great_trees(self):
        constant = great_book(num(0))
        for step, start, places in ((ONE, 0, 54), (num(0), 5, 40), (p("n"), 5, 40)):
            told = alike(great_book(step, start), constant, "d", "x", "x")
            self.assertEqual((told[0], size(told[1])), ("parted", places))

    def test_parted_only_by_a_tree_of_more_than_sixty_places(self):
        """x is 0, 0, 1 ..: of 40, 54 and 68 places."""
        self.too_great(great_book(("plus", p("x"), p("n"))), great_book(num(0)), "d", "x", "x")
        self.too_great(great_book(p("n")), great_book(num(0)), "d", "x", "x")

    def test_neither_is_found(self):
        """Alike, but the rows of three trees are needed, the last one of 68 places."""
        step = ("plus", p("x"), p("n"))
        self.too_great(great_book(step), great_book(step), "d", "x", "x")

    def test_found_by_sixty_places(self):
        """Two rows are enough: those of 40 and of 54 places."""
        self.assertEqual(alike(great_book(num(0)), great_book(num(0)), "d", "x", "x")[0], "alike")
        told = alike(great_book(num(0)), great_book(("times", num(0), p("n"))), "d", "n", "n")
        self.assertEqual(told[0], "alike")
        self.assertEqual([size(tree) for tree in told[1][0]["d"]], [40, 54])

    def test_all_trees_must_be_made_up_also_of_other_sorts(self):
        """x of d parts nothing here, but no basis has rows for all trees of d."""
        step = ("plus", p("x"), p("n"))
        sorts = GREAT_SORTS[:2] + (("c", (), ("u",)),) + GREAT_SORTS[3:]
        told = {("ld", "x"): num(0), ("ld", "n"): num(0), ("add", "x"): step, ("add", "n"): ("plus", p("n"), ONE),
                ("lc", "u"): num(4)}
        book = of_rules(told, sorts, GREAT_HEADS)
        self.too_great(book, book, "c", "u", "u")

    def test_just_sixty_places(self):
        """d of 40 places, and of 20 more by adds of b's (4) and of a's (1)."""
        heads = GREAT_HEADS[:4] + (("add", "d", ("d", "c", "b")), ("inch", "d", ("d", "a")))
        told = {("ld", "x"): num(0), ("ld", "n"): num(0), ("add", "x"): p("n"), ("add", "n"): num(0),
                ("inch", "x"): num(0), ("inch", "n"): ONE}
        zero = of_rules({**told, ("add", "x"): num(0)}, GREAT_SORTS, heads)
        told = alike(of_rules(told, GREAT_SORTS, heads), zero, "d", "x", "x")
        self.assertEqual((told[0], size(told[1])), ("parted", 60))
        heads = GREAT_HEADS[:4] + (("add", "d", ("d", "c", "b")), ("inch", "d", ("d", "a", "a")))
        told = {("ld", "x"): num(0), ("ld", "n"): num(0), ("add", "x"): p("n"), ("add", "n"): num(0),
                ("inch", "x"): num(0), ("inch", "n"): ONE}
        zero = of_rules({**told, ("add", "x"): num(0)}, GREAT_SORTS, heads)
        self.too_great(of_rules(told, GREAT_SORTS, heads), zero, "d", "x", "x")


class RefusedTest(unittest.TestCase):

    def refused(self, refusal, *asked):
        for wider in (refusal, BoughError):
            with self.subTest(asked=asked), self.assertRaises(wider) as caught:
                alike(*asked)
            self.assertIs(type(caught.exception), refusal)

    def test_no_plain_of_either_book(self):
        wheeled = (7,) + COUNT[1:]
        most = changed(COUNT, (2, 1, 3, 0, 2), ("most", p("x"), ONE))
        for bad in (wheeled, most, ROW_BOOK, LEVEL_BOOK):
            self.refused(NoPlain, bad, COUNT, "s", "x", "x")
            self.refused(NoPlain, COUNT, bad, "s", "x", "x")
            self.refused(NoPlain, bad, bad, "s", "x", "x")
            self.refused(NoPlain, bad, COUNT, "nowhere", "", "")

    def test_no_build(self):
        other = of_rules({("end", "x"): ONE, ("two", "x"): ONE}, (("s", (), ("x",)),), (("end", "s", ()), ("two", "s", ("s",))))
        fewer = of_rules({("end", "x"): ONE}, (("s", (), ("x",)),), CHAIN[:1])
        more = of_rules({("end", "x"): ONE, ("one", "x"): ONE}, (("s", (), ("x",)), ("t", (), ())), CHAIN)
        for bad in (other, fewer, more):
            for sort, x, y in (("s", "x", "x"), ("t", "x", "x"), ("", "", ""), ("s", "nope", "x")):
                self.refused(NoBuild, COUNT, bad, sort, x, y)
                self.refused(NoBuild, bad, COUNT, sort, x, y)

    def test_no_tree(self):
        sorts = (("s", (), ("x",)), ("t", (), ("x",)))
        heads = (("end", "s", ()), ("one", "t", ("t",)))
        book = of_rules({("end", "x"): ONE, ("one", "x"): ONE}, sorts, heads)
        for sort in ("t", "", "nowhere", "S", "x", "end", "s "):
            self.refused(NoTree, book, book, sort, "x", "x")
            self.refused(NoTree, book, book, sort, "nope", "")

    def test_no_worth(self):
        for x, y in (("v", "x"), ("x", "v"), ("", "v"), ("v", ""), ("x", "x"), ("s", "v"), ("V", "v"), ("nowhere", "nope")):
            self.refused(NoWorth, TRIANGLE, TRIANGLE, "s", x, y)
        self.refused(NoWorth, COUNT, TRIANGLE, "s", "v", "x")
        self.refused(NoWorth, COUNT, TRIANGLE, "s", "x", "x")
        self.refused(NoWorth, COUNT, TRIANGLE, "s", "v", "v")

    def test_ahead_of_too_great(self):
        step = ("plus", p("x"), p("n"))
        self.refused(NoWorth, great_book(step), great_book(step), "d", "x", "y")
        self.refused(NoTree, great_book(step), great_book(step), "e", "x", "x")


class BasisTest(unittest.TestCase):

    def looked_at(self, one, other, asked, basis, due):
        before = copy.deepcopy(basis)
        with self.subTest(basis=basis):
            self.assertIs(bears_out(one, other, *asked, basis), due)
            self.assertEqual(bears_out_by_the_words(one, other, *asked, basis), due)
            self.assertEqual(basis, before)

    def setUp(self):
        heads = (("a", "s", ()), ("b", "s", ()), ("f", "s", ("s", "t")), ("c", "t", ("s",)))
        sorts = (("s", (), ("x", "w")), ("t", (), ("y",)))
        told = {("a", "x"): num(2), ("b", "x"): num(-3), ("a", "w"): ONE, ("b", "w"): ONE, ("f", "w"): num(4),
                ("c", "y"): ("less", p("x"), ONE), ("f", "x"): ("plus", p("x"), ("times", num(3), p("y", 1)))}
        self.one = of_rules(told, sorts, heads)
        self.other = of_rules({**told, ("f", "x"): ("plus", ("times", p("y", 1), num(3)), p("x"))}, sorts, heads)
        self.asked = ("s", "x", "x")
        kind, self.basis = alike(self.one, self.other, *self.asked)
        self.assertEqual(kind, "alike")

    def told(self, basis, due):
        self.looked_at(self.one, self.other, self.asked, basis, due)

    def test_the_told_one(self):
        self.told(self.basis, True)
        self.assertEqual({sort: len(trees) for sort, trees in self.basis[0].items()}, {"s": 3, "t": 2})
        self.assertEqual(len(self.basis[1]), 1 + 1 + 6 + 3)

    def test_of_other_trees_that_are_a_basis_too(self):
        many = 0
        for seed in range(60):
            chance = random.Random(seed)
            trees = {sort: [random_tree(chance, self.one, sort, chance.randrange(1, 12))
                            for _ in range(chance.randrange(1, 9))] for sort in ("t", "s")}
            basis = basis_of_trees(self.one, self.other, trees, lambda: chance.choice((0, 0, 1, Fraction(-2, 3))))
            if basis is not None:
                many += 1
                self.told(basis, True)
        self.assertGreater(many, 10)

    def test_a_tree_twice(self):
        trees = {"s": self.basis[0]["s"] * 2, "t": self.basis[0]["t"] * 4}
        self.told(basis_of_trees(self.one, self.other, trees), True)

    def test_eight_trees_and_nine(self):
        trees = {"s": (self.basis[0]["s"] * 3)[:8], "t": self.basis[0]["t"] * 4}
        self.told(basis_of_trees(self.one, self.other, trees), True)
        for sort in ("s", "t"):
            more = {**trees, sort: (self.basis[0][sort] * 5)[:9]}
            self.told(basis_of_trees(self.one, self.other, more), False)

    def test_a_tree_left_out_or_one_more(self):
        for sort, listed in self.basis[0].items():
            for k in range(len(listed)):
                fewer = {**self.basis[0], sort: listed[:k] + listed[k + 1:]}
                self.told((fewer, self.basis[1]), False)
                made = {key: told for key, told in self.basis[1].items() if key in sums_due(self.one, fewer)}
                self.told((fewer, made), False)
            self.told(({**self.basis[0], sort: listed + listed[:1]}, self.basis[1]), False)
            self.told(({**self.basis[0], sort: []}, self.basis[1]), False)
            self.told(({**self.basis[0], sort: listed[::-1]}, self.basis[1]), False)
        self.told(({"s": [], "t": []}, {}), False)
        self.told(({"s": [], "t": []}, {("a",): [], ("b",): []}), False)

    def test_a_tree_of_another_sort(self):
        for sort, other in (("s", "t"), ("t", "s")):
            listed = self.basis[0][sort]
            for k in range(len(listed)):
                bent = {**self.basis[0], sort: listed[:k] + [self.basis[0][other][0]] + listed[k + 1:]}
                self.told((bent, self.basis[1]), False)
        self.told(({"s": self.basis[0]["t"], "t": self.basis[0]["s"]}, self.basis[1]), False)

    def test_more_than_sixty_places(self):
        a, b = ("a", ()), ("b", ())
        def long(places, tree):
            while size(tree) < places:
                tree = ("f", (tree, ("c", (a,))))
            return tree
        for first in (long(58, a), long(61, a)):
            self.assertIn(size(first), (58, 61))
            trees = {"s": [first, a, b], "t": self.basis[0]["t"]}
            basis = basis_of_trees(self.one, self.other, trees)
            self.assertIsNotNone(basis)
            self.told(basis, size(first) <= 60)

    def test_sixty_places(self):
        """A tree of just sixty places is fine, the next one is not."""
        for places, due in ((60, True), (61, False)):
            trees = {"s": [tower(places), tower(1)]}
            basis = basis_of_trees(COUNT, COUNT, trees)
            self.looked_at(COUNT, COUNT, ("s", "x", "x"), basis, due)

    def test_sums(self):
        trees, sums = self.basis
        for key, told in sums.items():
            self.told((trees, {one: other for one, other in sums.items() if one != key}), False)
            self.told((trees, {**sums, key: told[:-1]}), False)
            self.told((trees, {**sums, key: told[1:]}), False)
            self.told((trees, {**sums, key: told + [(0, 1)]}), False)
            self.told((trees, {**sums, key: []}), False)
            self.told((trees, {**sums, key + (0,): told}), False)
            if len(key) > 1:
                self.told((trees, {**sums, key[:-1] + (99,): told}), False)
                self.told((trees, {**sums, key[:-1] + (-1,): told}), False)
                self.told((trees, {**sums, key[:-1]: told}), False)
            moved = {one: other for one, other in sums.items() if one != key}
            self.told((trees, {**moved, ("nowhere",) + key[1:]: told}), False)
            self.told((trees, {**sums, ("nowhere",) + key[1:]: told}), False)
        self.told((trees, {}), False)
        self.told((trees, {**sums, (): []}), False)

    def test_fractions(self):
        trees, sums = self.basis
        for key, told in sums.items():
            for k, (top, bottom) in enumerate(told):
                for pair in ((top * 2, bottom * 2), (-top, -bottom), (top, 0), (0, 0), (top, -bottom), (top + 1, bottom),
                             (top - bottom, bottom), (top * 3, bottom * 3), (top, bottom + 1), (10 ** 40, 3)):
                    if pair != (top, bottom):
                        self.told((trees, {**sums, key: told[:k] + [pair] + told[k + 1:]}), False)

    def test_fractions_below_nought_and_with_bottoms(self):
        below = [pair for told in self.basis[1].values() for pair in told if pair[0] < 0]
        broken = [pair for told in self.basis[1].values() for pair in told if pair[1] > 1]
        self.assertTrue(below and broken)

    def test_sorts_left_out_or_too_many(self):
        trees, sums = self.basis
        for sort in trees:
            self.told(({name: listed for name, listed in trees.items() if name != sort}, sums), False)
        self.told(({}, {}), False)
        self.told(({}, sums), False)
        for name in ("u", "", "S"):
            self.told(({**trees, name: []}, sums), False)
            self.told(({**trees, name: trees["s"]}, sums), False)

    def test_sorts_that_are_not_grown(self):
        heads = (("a", "s", ()), ("f", "s", ("t",)), ("g", "t", ("t",)))
        sorts = (("s", (), ("x",)), ("t", (), ("y",)))
        book = of_rules({("a", "x"): ONE, ("f", "x"): p("y"), ("g", "y"): num(7)}, sorts, heads)
        asked = ("s", "x", "x")
        self.looked_at(book, book, asked, ({"s": [("a", ())]}, {("a",): [(1, 1)]}), True)
        self.looked_at(book, book, asked, ({"s": [("a", ())], "t": []}, {("a",): [(1, 1)]}), False)

    def test_two_ups_that_are_not_alike(self):
        """The basis holds but for the two ups."""
        for asked, due in ((("s", "x", "x"), True), (("s", "w", "w"), True), (("s", "x", "w"), False),
                           (("s", "w", "x"), False), (("t", "y", "y"), True)):
            self.looked_at(self.one, self.other, asked, self.basis, due)
        bent = changed(self.other, (2, 0, 3, 0, 2), num(7))
        basis = alike(self.one, bent, "s", "w", "w")[1]
        self.looked_at(self.one, bent, ("s", "w", "w"), basis, True)
        self.looked_at(self.one, bent, ("s", "x", "x"), basis, False)
        self.assertEqual(alike(self.one, bent, "s", "x", "x"), ("parted", ("a", ())))

    def test_one_that_holds_bears_out_what_it_stands_for(self):
        """Whoever made it: no tree parts the books then."""
        many = 0
        for seed in range(120):
            chance, (one, other) = random.Random(seed), two_plain_books(seed, 5, (0, 1))
            grown = fewest_places(one)
            trees = {sort: [random_tree(chance, one, sort, chance.randrange(1, 6)) for _ in range(chance.randrange(1, 6))]
                     for sort in grown}
            basis = basis_of_trees(one, other, trees)
            if basis is None:
                continue
            for sort in grown:
                for x, y in itertools.product(ups_of(one, sort), ups_of(other, sort)):
                    due = bears_out_by_the_words(one, other, sort, x, y, basis)
                    self.assertIs(bears_out(one, other, sort, x, y, basis), due)
                    self.assertEqual(alike(one, other, sort, x, y)[0], "alike" if due else "parted")
                    many += due
        self.assertGreater(many, 10)


if __name__ == "__main__":
    unittest.main()
