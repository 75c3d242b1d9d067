"""Points 28, 29 and 4: pricings, cheapest trees, and the dict that bears out that they are."""

import copy
import itertools
import random
import unittest

from boughworth.books import why_no_book
from boughworth.cheapest import cheapest, is_cheapest, is_priced
from boughworth.errors import BoughError, NoPrice
from boughworth.straight import made_straight
from example_books import LEVEL_BOOK, ROW_BOOK, book_with, changed, own, part
from example_plain import worths_by_the_words
from example_trees import fewest_places, random_forms, random_tree, size, trees_by_the_words
from examples import ONE, expected


def num(n):
    return ("num", n)


def of_rules(told, sorts, heads, wheel=0):
    """What is not told is 1."""
    return book_with(wheel, sorts, heads, lambda bare, form, key: told.get((form[0], key[1]), ONE))


def price_by_the_words(book, pricing, tree):
    sort = [form[1] for form in book[2] if form[0] == tree[0]][0]
    return worths_by_the_words(book, tree)[((), pricing[sort])]


def live(book):
    grown = fewest_places(book)
    return [form for form in book[2] if all(one in grown for one in form[2])]


def is_cheapest_by_the_words(book, pricing, told):
    if set(told) != set(fewest_places(book)):
        return False
    forms = {form[0]: form for form in book[2]}

    def is_tree(thing, sort):
        if not isinstance(thing, tuple) or len(thing) != 2 or thing[0] not in forms or not isinstance(thing[1], tuple):
            return False
        form = forms[thing[0]]
        if form[1] != sort or len(form[2]) != len(thing[1]):
            return False
        return all(is_tree(inner, one) for inner, one in zip(thing[1], form[2]))

    for sort, (price, tree) in told.items():
        if not is_tree(tree, sort) or size(tree) > 60 or price_by_the_words(book, pricing, tree) != price:
            return False
    for form in live(book):
        formula = [rule[2] for rule in form[3] if rule[:2] == (-1, pricing[form[1]])][0]
        read = {part(k, pricing[sort]): told[sort][0] for k, sort in enumerate(form[2])}
        if expected(formula, read, 0) < told[form[1]][0]:
            return False
    return True


S = (("s", (), ("cost", "other")),)
HEADS = (("leaf", "s", ()), ("f", "s", ("s", "s")))
A, B = part(0, "cost"), part(1, "cost")
PRICING = {"s": "cost"}


def of_formula(formula, wheel=0, leaf=ONE):
    return of_rules({("f", "cost"): formula, ("leaf", "cost"): leaf}, S, HEADS, wheel)


class PricedTest(unittest.TestCase):

    def told(self, book, pricing, due):
        self.assertIsNone(why_no_book(book))
        before = copy.deepcopy(pricing)
        with self.subTest(pricing=pricing, book=book):
            self.assertIs(is_priced(book, pricing), due)
            self.assertEqual(pricing, before)
            if due:
                self.assertEqual(set(cheapest(book, pricing)), set(fewest_places(book)))
                self.assertIs(is_cheapest(book, pricing, {}), not fewest_places(book))
            else:
                for wider in (NoPrice, BoughError):
                    with self.assertRaises(wider):
                        cheapest(book, pricing)
                    with self.assertRaises(wider):
                        is_cheapest(book, pricing, {})
                    with self.assertRaises(wider):
                        is_cheapest(book, pricing, {"s": (1, ("leaf", ())), "none": (0, ())})

    def test_formulas_that_price(self):
        for formula in (("plus", A, B), ("most", A, B), ("plus", num(0), ("plus", B, A)), ("plus", ("most", A, B), A),
                        ("most", ("plus", A, A), ("plus", B, num(999999))), ("plus", ("most", A, num(7)), ("most", B, B))):
            self.told(of_formula(formula), PRICING, True)
        for leaf in (num(0), num(999999), ("plus", ONE, num(0)), ("most", ONE, num(5))):
            self.told(of_formula(("plus", A, B), 0, leaf), PRICING, True)

    def test_a_wheel(self):
        for wheel in (2, 1000, 10 ** 30):
            self.told(of_formula(("plus", A, B), wheel), PRICING, False)
        self.told(ROW_BOOK, {"row": "sum", "cell": "val"}, False)

    def test_a_number_below_nought(self):
        for formula in (("plus", ("plus", A, B), num(-1)), ("most", ("plus", A, B), num(-999999)),
                        ("plus", A, ("plus", B, ("most", num(-1), num(0))))):
            self.told(of_formula(formula), PRICING, False)
        self.told(of_formula(("plus", A, B), 0, num(-1)), PRICING, False)

    def test_kinds_that_do_not_price(self):
        both = ("plus", A, B)
        for kind in ("less", "times", "least"):
            self.told(of_formula((kind, A, B)), PRICING, False)
            self.told(of_formula(("plus", both, (kind, ONE, ONE))), PRICING, False)
            self.told(of_formula(both, 0, (kind, ONE, ONE)), PRICING, False)
        self.told(of_formula(("when", A, both, both)), PRICING, False)
        self.told(of_formula(("plus", both, ("when", ONE, ONE, ONE))), PRICING, False)
        self.told(of_formula(both, 0, ("when", num(0), ONE, ONE)), PRICING, False)
        self.told(of_formula(("plus", both, own("other")), 9), PRICING, False)

    def test_each_part_is_read(self):
        for formula in (A, B, num(0), ("plus", A, A), ("most", B, num(3)), ("plus", ("most", A, A), ONE)):
            self.told(of_formula(formula), PRICING, False)

    def test_another_up_of_a_part_read(self):
        other = part(0, "other")
        for formula in (("plus", other, B), ("plus", ("plus", A, B), other), ("most", ("plus", A, B), part(1, "other"))):
            self.told(of_formula(formula), PRICING, False)
        self.told(of_rules({("f", "other"): ("plus", other, part(1, "other"))}, S, HEADS), {"s": "other"}, True)
        self.told(of_rules({("f", "other"): ("plus", other, B)}, S, HEADS), {"s": "other"}, False)

    def test_only_rules_of_the_ups_named_count(self):
        for formula in (("less", A, B), ("when", A, B, ONE), num(-5), ("times", A, part(1, "other")), part(1, "other")):
            book = of_rules({("f", "cost"): ("plus", A, B), ("f", "other"): formula}, S, HEADS)
            self.told(book, PRICING, True)
            self.told(book, {"s": "other"}, False)

    def test_pricings(self):
        book = of_formula(("plus", A, B))
        for pricing in ({}, {"s": "cost", "t": "cost"}, {"t": "cost"}, {"s": "price"}, {"s": ""}, {"s": "s"}, {"": "cost"},
                        {"s": "Cost"}, {"s": "cost", "": ""}, {"leaf": "cost"}):
            self.told(book, pricing, False)

    def test_several_sorts(self):
        sorts = (("s", (), ("x",)), ("t", (), ("y", "x")), ("u", (), ("z",)))
        heads = (("a", "s", ()), ("f", "s", ("t", "s")), ("g", "t", ("s",)), ("h", "u", ("u",)))
        told = {("f", "x"): ("plus", part(0, "y"), part(1, "x")), ("g", "y"): part(0, "x"), ("h", "z"): part(0, "z")}
        book = of_rules(told, sorts, heads)
        self.told(book, {"s": "x", "t": "y", "u": "z"}, True)
        self.told(book, {"s": "x", "t": "x", "u": "z"}, False)
        self.told(book, {"s": "x", "t": "y"}, False)
        self.told(book, {"s": "x", "u": "z"}, False)
        self.told(book, {"s": "y", "t": "y", "u": "z"}, False)
        bent = changed(book, (2, 1, 3, 0, 2), ("plus", part(0, "x"), part(1, "x")))
        self.told(bent, {"s": "x", "t": "y", "u": "z"}, False)

    def test_forms_that_are_not_live_count_too(self):
        sorts = (("s", (), ("x",)), ("u", (), ("z",)))
        heads = (("a", "s", ()), ("h", "u", ("u",)))
        for formula, due in ((part(0, "z"), True), (num(3), False), (("least", part(0, "z"), ONE), False)):
            self.told(of_rules({("h", "z"): formula}, sorts, heads), {"s": "x", "u": "z"}, due)

    def test_a_sort_without_ups(self):
        book = of_rules({}, (("s", (), ("x",)), ("t", (), ())), (("a", "s", ()), ("b", "t", ())))
        for pricing in ({"s": "x"}, {"s": "x", "t": "x"}, {"s": "x", "t": ""}):
            self.told(book, pricing, False)

    def test_the_level_book(self):
        self.told(LEVEL_BOOK, {"tree": "size", "word": "long"}, False)
        self.told(changed(LEVEL_BOOK, (2, 3, 3, 0, 2), part(0, "long")), {"tree": "size", "word": "long"}, True)


def random_priced_book(seed):
    """A priced book, its pricing, and forms that may go round or not be live."""
    chance = random.Random(seed)
    names = ("a", "b", "c", "d")[:chance.randrange(1, 5)]
    sorts = tuple((name, (), chance.choice((("x",), ("y", "x"), ("x", "y", "z")))) for name in names)
    pricing = {name: chance.choice(ups) for name, downs, ups in sorts}

    def formula_for(bare, form, key):
        if key[1] != pricing[form[1]]:
            return ("least", num(-3), num(4))
        leaves = [part(k, pricing[sort]) for k, sort in enumerate(form[2])]
        leaves += [num(chance.choice((0, 0, 1, 2, 9))) for _ in range(chance.randrange(1, 3))]
        chance.shuffle(leaves)
        made = leaves[0]
        for leaf in leaves[1:]:
            made = (chance.choice(("plus", "most")), made, leaf)
        return made

    return book_with(0, sorts, random_forms(chance, sorts), formula_for), pricing


class CheapestTest(unittest.TestCase):

    def cheap(self, book, pricing):
        before = dict(pricing)
        told = cheapest(book, pricing)
        self.assertEqual(pricing, before)
        self.assertIsInstance(told, dict)
        self.assertTrue(all(isinstance(pair, tuple) for pair in told.values()))
        self.assertTrue(is_cheapest_by_the_words(book, pricing, told))
        self.assertIs(is_cheapest(book, pricing, told), True)
        self.assertEqual(cheapest(book, pricing), told)
        return told

    def test_one_leaf(self):
        self.assertEqual(self.cheap(of_formula(("plus", A, B)), PRICING), {"s": (1, ("leaf", ()))})
        self.assertEqual(self.cheap(of_formula(("most", A, B), 0, num(0)), PRICING), {"s": (0, ("leaf", ()))})

    def test_a_tree_of_many_places_is_cheaper(self):
        sorts = (("s", (), ("x",)), ("t", (), ("x",)))
        heads = (("dear", "s", ()), ("f", "s", ("t", "t", "t")), ("one", "t", ()), ("far", "t", ("s",)))
        told = {("dear", "x"): num(100), ("one", "x"): num(4),
                ("f", "x"): ("plus", part(0, "x"), ("plus", part(1, "x"), part(2, "x"))), ("far", "x"): part(0, "x")}
        book = of_rules(told, sorts, heads)
        one = ("one", ())
        self.assertEqual(self.cheap(book, {"s": "x", "t": "x"}), {"s": (12, ("f", (one, one, one))), "t": (4, one)})

    def test_a_way_over_all_sorts(self):
        """The leaf of each sort costs more than the way from the one before: 3 places deep in all."""
        sorts = tuple((name, (), ("x",)) for name in "abcd")
        heads = [("leafa", "a", ())]
        told = {("leafa", "x"): num(1)}
        for k, name in enumerate("bcd"):
            heads += [("leaf" + name, name, ()), ("way" + name, name, ("abc"[k],) * 3)]
            told[("leaf" + name, "x")] = num(999999)
            told[("way" + name, "x")] = ("plus", part(0, "x"), ("plus", part(1, "x"), part(2, "x")))
        for turned in (heads, heads[::-1]):
            book = of_rules(told, sorts, tuple(turned))
            cheap = self.cheap(book, {name: "x" for name in "abcd"})
            self.assertEqual({sort: pair[0] for sort, pair in cheap.items()}, {"a": 1, "b": 3, "c": 9, "d": 27})
            self.assertEqual(size(cheap["d"][1]), 40)

    def test_a_price_that_falls_again_and_again(self):
        """Found dear by few places first, cheaper by more."""
        sorts = tuple((name, (), ("x",)) for name in "abcd")
        heads = (("l", "a", ()), ("m", "b", ()), ("n", "c", ()), ("o", "d", ()), ("p", "b", ("a",)), ("q", "c", ("b",)),
                 ("r", "d", ("c",)))
        read = part(0, "x")
        told = {("l", "x"): num(0), ("m", "x"): num(10), ("n", "x"): num(10), ("o", "x"): num(10), ("p", "x"): read,
                ("q", "x"): ("plus", read, ONE), ("r", "x"): ("plus", read, ONE)}
        cheap = self.cheap(of_rules(told, sorts, heads), {name: "x" for name in "abcd"})
        self.assertEqual({sort: pair[0] for sort, pair in cheap.items()}, {"a": 0, "b": 0, "c": 1, "d": 2})

    def test_most_and_plus_of_several_parts(self):
        sorts = (("s", (), ("x",)), ("t", (), ("x",)))
        three = [part(k, "x") for k in range(3)]
        heads = (("a", "t", ()), ("sum", "s", ("t",) * 3), ("top", "s", ("t",) * 3))
        told = {("a", "x"): num(5), ("sum", "x"): ("plus", three[0], ("plus", three[1], three[2])),
                ("top", "x"): ("plus", num(4), ("most", three[0], ("most", three[1], three[2])))}
        leaf = ("a", ())
        pricing = {"s": "x", "t": "x"}
        self.assertEqual(self.cheap(of_rules(told, sorts, heads), pricing)["s"], (9, ("top", (leaf,) * 3)))
        told[("top", "x")] = ("plus", num(11), told[("top", "x")][2])
        self.assertEqual(self.cheap(of_rules(told, sorts, heads), pricing)["s"], (15, ("sum", (leaf,) * 3)))

    def test_forms_that_cost_nothing_and_go_round(self):
        sorts = (("s", (), ("x",)), ("t", (), ("x",)))
        heads = (("f", "s", ("t",)), ("g", "t", ("s",)), ("h", "s", ("s", "s")), ("leaf", "t", ()))
        told = {("f", "x"): part(0, "x"), ("g", "x"): part(0, "x"), ("h", "x"): ("most", part(0, "x"), part(1, "x"))}
        for price in (0, 7):
            told[("leaf", "x")] = num(price)
            cheap = self.cheap(of_rules(told, sorts, heads), {"s": "x", "t": "x"})
            self.assertEqual({sort: pair[0] for sort, pair in cheap.items()}, {"s": price, "t": price})

    def test_sorts_that_are_not_grown(self):
        sorts = (("s", (), ("x",)), ("t", (), ("y",)))
        heads = (("a", "s", ()), ("f", "s", ("t",)), ("g", "t", ("t",)))
        told = {("a", "x"): num(5), ("f", "x"): part(0, "y"), ("g", "y"): part(0, "y")}
        book = of_rules(told, sorts, heads)
        self.assertEqual(self.cheap(book, {"s": "x", "t": "y"}), {"s": (5, ("a", ()))})
        bare = of_rules({("f", "x"): part(0, "y"), ("g", "y"): part(0, "y")}, sorts, heads[1:])
        self.assertEqual(self.cheap(bare, {"s": "x", "t": "y"}), {})

    def test_random_books(self):
        many = 0
        for seed in range(200):
            book, pricing = random_priced_book(seed)
            self.assertTrue(is_priced(book, pricing))
            cheap = self.cheap(book, pricing)
            chance = random.Random(seed)
            for sort in fewest_places(book):
                trees = [random_tree(chance, book, sort, chance.randrange(1, 20)) for _ in range(3)]
                trees += [tree for places in (1, 2, 3) for tree in trees_by_the_words(book, sort, places)[:20]]
                for tree in trees:
                    self.assertGreaterEqual(price_by_the_words(book, pricing, tree), cheap[sort][0])
                many += size(cheap[sort][1]) > 1
        self.assertGreater(many, 50)

    def test_books_made_straight(self):
        for seed in range(30):
            book, pricing = random_priced_book(seed)
            self.assertEqual(self.cheap(made_straight(book), pricing), cheapest(book, pricing))

    def test_what_is_told_is_the_askers_own(self):
        book, pricing = random_priced_book(3)
        keep = copy.deepcopy(cheapest(book, pricing))
        cheapest(book, pricing).clear()
        self.assertEqual(cheapest(book, pricing), keep)


class IsCheapestTest(unittest.TestCase):

    sorts = (("s", (), ("x", "w")), ("t", (), ("x",)), ("u", (), ("x",)))
    heads = (("a", "s", ()), ("b", "s", ()), ("f", "s", ("s", "t")), ("c", "t", ("s",)), ("d", "t", ()), ("e", "u", ("u",)))
    rules = {("a", "x"): num(2), ("b", "x"): num(2), ("a", "w"): num(7), ("f", "x"): ("plus", part(0, "x"), part(1, "x")),
             ("c", "x"): ("plus", part(0, "x"), ONE), ("d", "x"): num(5), ("e", "x"): part(0, "x")}
    book = of_rules(rules, sorts, heads)
    pricing = {"s": "x", "t": "x", "u": "x"}
    a, b, d = ("a", ()), ("b", ()), ("d", ())

    def looked_at(self, told, due, book=None):
        book = book or self.book
        before = copy.deepcopy(told)
        with self.subTest(told=told):
            self.assertIs(is_cheapest(book, self.pricing, told), due)
            self.assertEqual(is_cheapest_by_the_words(book, self.pricing, told), due)
            self.assertEqual(told, before)

    def test_the_told_one_and_others_of_the_same_price(self):
        self.looked_at(cheapest(self.book, self.pricing), True)
        for one, other in itertools.product((self.a, self.b), (self.a, self.b)):
            self.looked_at({"s": (2, one), "t": (3, ("c", (other,)))}, True)
            self.looked_at({"t": (3, ("c", (other,))), "s": (2, one)}, True)

    def test_dearer_trees(self):
        self.looked_at({"s": (2, self.a), "t": (5, self.d)}, False)
        self.looked_at({"s": (5, ("f", (self.a, ("c", (self.a,))))), "t": (3, ("c", (self.a,)))}, False)
        self.looked_at({"s": (7, ("f", (self.a, self.d))), "t": (5, self.d)}, False)

    def test_prices_too_high_or_too_low(self):
        for price in (1, 3, 0, -1, 10 ** 40):
            self.looked_at({"s": (price, self.a), "t": (3, ("c", (self.a,)))}, False)
            self.looked_at({"s": (2, self.a), "t": (price if price != 3 else 2, ("c", (self.a,)))}, False)

    def test_trees_of_other_sorts_and_none(self):
        c = ("c", (self.a,))
        for thing in (c, self.d, ("nowhere", ()), (), ("a",), ("a", (self.a,)), ("f", (self.a,)), ("f", (self.a, self.a)),
                      ("a", (), ()), (("a", ()), ()), ("", ()), (None, None), ("f", (self.a, ("c", (self.d,)))), ("a", []),
                      (("a",), ()), ((), ()), ("f", ())):
            self.looked_at({"s": (2, thing), "t": (3, c)}, False)
        for thing in (self.a, self.b, ("c", ()), ("c", (self.d,)), ("e", ()), ()):
            self.looked_at({"s": (2, self.a), "t": (3, thing)}, False)

    def test_a_tree_of_another_sort_with_just_that_price(self):
        self.looked_at({"s": (2, self.a), "t": (2, self.a)}, False)
        self.looked_at({"s": (3, ("c", (self.a,))), "t": (3, ("c", (self.a,)))}, False)
        free = of_rules({**self.rules, ("c", "x"): part(0, "x")}, self.sorts, self.heads)
        c = ("c", (self.a,))
        self.looked_at({"s": (2, self.a), "t": (2, c)}, True, free)
        for one, other in ((self.a, self.a), (c, c), (c, self.a)):
            self.looked_at({"s": (2, one), "t": (2, other)}, False, free)

    def test_sorts_left_out_or_too_many(self):
        full = {"s": (2, self.a), "t": (3, ("c", (self.a,)))}
        self.looked_at({}, False)
        for sort in full:
            self.looked_at({name: pair for name, pair in full.items() if name != sort}, False)
        for name in ("u", "", "v", "S"):
            self.looked_at({**full, name: (2, self.a)}, False)

    def test_sixty_places(self):
        """Where steps cost nothing, a tree of sixty places is as cheap as a leaf; one of more bears nothing out."""
        free = of_rules({**self.rules, ("c", "x"): part(0, "x"), ("f", "x"): ("most", part(0, "x"), part(1, "x"))},
                        self.sorts, self.heads)
        tree = self.a
        while size(tree) < 58:
            tree = ("f", (tree, ("c", (self.a,))))
        self.assertEqual(size(tree), 58)
        self.looked_at({"s": (2, tree), "t": (2, ("c", (tree,)))}, True, free)
        sixty = ("c", (("f", (("f", (self.a, ("c", (self.a,)))), ("c", (self.a,)))),))
        while size(sixty) < 60:
            sixty = ("c", (("f", (self.a, sixty)),))
        self.assertIn(size(sixty), (60, 61, 62))
        for made in (sixty, ("c", (("f", (tree, ("c", (self.a,)))),))):
            self.looked_at({"s": (2, self.a), "t": (2, made)}, size(made) <= 60, free)
        self.looked_at({"s": (2, ("f", (tree, ("c", (self.a,))))), "t": (2, ("c", (self.a,)))}, False, free)

    def test_just_sixty_and_sixty_one(self):
        sorts = (("s", (), ("x",)),)
        book = of_rules({("leaf", "x"): num(0), ("one", "x"): part(0, "x")}, sorts, (("leaf", "s", ()), ("one", "s", ("s",))))
        tree = ("leaf", ())
        for _ in range(59):
            tree = ("one", (tree,))
        self.assertIs(is_cheapest(book, {"s": "x"}, {"s": (0, tree)}), True)
        self.assertIs(is_cheapest(book, {"s": "x"}, {"s": (0, ("one", (tree,)))}), False)

    def test_without_trees(self):
        heads = (("e", "u", ("u",)),)
        book = of_rules({("e", "x"): part(0, "x")}, self.sorts, heads)
        self.looked_at({}, True, book)
        self.looked_at({"u": (0, ("e", ()))}, False, book)

    def test_random_books(self):
        """Bent dicts, by the words and by the program."""
        seen = {True: 0, False: 0}
        for seed in range(150):
            chance, (book, pricing) = random.Random(seed), random_priced_book(seed)
            for _ in range(3):
                told = dict(cheapest(book, pricing))
                if told and chance.random() < 0.8:
                    sort = chance.choice(list(told))
                    tree = random_tree(chance, book, sort, chance.randrange(1, 9))
                    price = chance.choice((told[sort][0], price_by_the_words(book, pricing, tree)))
                    told[sort] = (price, tree)
                due = is_cheapest_by_the_words(book, pricing, told)
                self.assertIs(is_cheapest(book, pricing, told), due)
                seen[due] += 1
        self.assertGreater(min(seen.values()), 30, seen)


if __name__ == "__main__":
    unittest.main()
