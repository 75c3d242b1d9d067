"""Points 23 and 4: trees reckoned in walks from left to right."""

import copy
import random
import unittest

from boughworth.asking import worths_of
from boughworth.errors import BoughError, NoGiven, Tangled, TooGreat
from boughworth.passes import holds, passes_of
from boughworth.straight import made_straight
from boughworth.walks import walked
from example_books import LEVEL_BOOK, ROW_BOOK, all_spots, book_with, own, part
from example_trees import (
    fewest_places, long_book, random_book, random_tree, read_by, size, tower, worth_by_its_rule,
)
from examples import ONE


def walked_by_the_words(book, tree, given, table):
    sorts = {name: (downs, ups) for name, downs, ups in book[1]}
    forms = {form[0]: form for form in book[2]}
    top = forms[tree[0]][1]
    worths = {((), down): given[down] % book[0] if book[0] else given[down] for down in sorts[top][0]}
    told = []

    def reckon(number, place, sort, words):
        coming = [(place, word) for word in words if table[(sort, word)] == number]
        while coming:
            spot = next(one for one in coming if not set(read_by(book, tree, one)) & set(coming))
            coming.remove(spot)
            worths[spot] = worth_by_its_rule(book, tree, given, spot, worths)
            told.append((number, spot, worths[spot]))

    def walk(number, bough, place):
        for k, (inner, sort) in enumerate(zip(bough[1], forms[bough[0]][2])):
            reckon(number, place + (k,), sort, sorts[sort][0])
            walk(number, inner, place + (k,))
        reckon(number, place, forms[bough[0]][1], sorts[forms[bough[0]][1]][1])

    for number in range(1, max(table.values(), default=0) + 1):
        walk(number, tree, ())
    return told


def greater_tables(chance, book, table):
    """Tables that hold, with passes that no worth has among them, too."""
    found = [{worth: number + 1 for worth, number in table.items()}, {worth: 3 * n for worth, n in table.items()}]
    bent = dict(table)
    for _ in range(12):
        if bent:
            worth = chance.choice(list(bent))
            further = {**bent, worth: bent[worth] + chance.randrange(1, 4)}
            bent = further if holds(book, further) else bent
    return found + [bent]


S = (("s", ("d", "e"), ("u", "v")),)
HEADS = (("f", "s", ("s", "s")), ("g", "s", ()))


def of_rules(told, sorts=S, heads=HEADS, wheel=100):
    return book_with(wheel, sorts, heads, lambda bare, form, key: told.get((form[0], key), ONE))


def table_of(passes, sort="s"):
    return {(sort, word): number for word, number in passes.items()}


G = ("g", ())
F = ("f", (G, G))


class WalkedTest(unittest.TestCase):

    def looked_at(self, book, tree, given, table):
        before = copy.deepcopy((given, table))
        told = walked(book, tree, given, table)
        self.assertEqual((given, table), before)
        self.assertIsInstance(told, list)
        self.assertEqual(told, walked_by_the_words(book, tree, given, table))
        kind, worths, order = worths_of(book, tree, given)
        self.assertEqual(kind, "worths")
        top = [((), word) for word in given]
        self.assertCountEqual([spot for number, spot, worth in told], [spot for spot in worths if spot not in top])
        for number, spot, worth in told:
            self.assertEqual(worth, worths[spot])
        return told

    def test_of_one_pass(self):
        """Downs when the walk comes to a part, ups when it leaves a bough."""
        book = of_rules({
            ("f", (0, "d")): own("d"), ("f", (0, "e")): own("e"),
            ("f", (1, "d")): part(0, "u"), ("f", (1, "e")): part(0, "v"),
            ("f", (-1, "u")): ("plus", part(0, "u"), part(1, "u")), ("f", (-1, "v")): part(1, "v"),
            ("g", (-1, "u")): ("plus", own("d"), ONE), ("g", (-1, "v")): ("plus", own("e"), ("num", 10)),
        })
        told = self.looked_at(book, F, {"d": 1, "e": 2}, table_of({"d": 1, "e": 1, "u": 1, "v": 1}))
        self.assertEqual(told, [
            (1, ((0,), "d"), 1), (1, ((0,), "e"), 2), (1, ((0,), "u"), 2), (1, ((0,), "v"), 12),
            (1, ((1,), "d"), 2), (1, ((1,), "e"), 12), (1, ((1,), "u"), 3), (1, ((1,), "v"), 22),
            (1, ((), "u"), 5), (1, ((), "v"), 22),
        ])

    def test_of_two_passes(self):
        """e of part 0 waits for what part 1 tells."""
        book = of_rules({
            ("f", (0, "d")): own("d"), ("f", (0, "e")): part(1, "u"),
            ("f", (1, "d")): part(0, "u"), ("f", (1, "e")): own("e"),
            ("f", (-1, "u")): part(1, "u"), ("f", (-1, "v")): ("plus", part(0, "v"), part(1, "v")),
            ("g", (-1, "u")): ("plus", own("d"), ONE), ("g", (-1, "v")): own("e"),
        })
        table = table_of({"d": 1, "e": 2, "u": 1, "v": 2})
        self.assertEqual(passes_of(book), ("passes", table))
        told = self.looked_at(book, F, {"d": 5, "e": 7}, table)
        self.assertEqual(told, [
            (1, ((0,), "d"), 5), (1, ((0,), "u"), 6), (1, ((1,), "d"), 6), (1, ((1,), "u"), 7), (1, ((), "u"), 7),
            (2, ((0,), "e"), 7), (2, ((0,), "v"), 7), (2, ((1,), "e"), 7), (2, ((1,), "v"), 7), (2, ((), "v"), 14),
        ])
        spread = table_of({"d": 2, "e": 7, "u": 2, "v": 40})
        self.assertTrue(holds(book, spread))
        told = self.looked_at(book, F, {"d": 5, "e": 7}, spread)
        self.assertEqual([number for number, spot, worth in told], [2] * 5 + [7] * 2 + [40] * 3)

    def test_the_first_that_reads_none_of_those_still_to_come(self):
        sorts = (("s", ("d", "e", "c"), ("u", "v", "w")),)
        heads = (("f", "s", ("s",)), ("g", "s", ()))
        given = {"d": 1, "e": 2, "c": 3}
        ones = {("s", word): 1 for word in "decuvw"}

        def order(told, tree, place, table=ones):
            book = of_rules(told, sorts, heads)
            self.assertTrue(holds(book, table))
            steps = self.looked_at(book, tree, given, table)
            return "".join(spot[1] for number, spot, worth in steps if spot[0] == place)

        ups = {("g", (-1, "u")): own("v"), ("g", (-1, "v")): own("w")}
        self.assertEqual(order(ups, G, ()), "wvu")
        self.assertEqual(order({("g", (-1, "u")): own("w")}, G, ()), "vwu")
        self.assertEqual(order({("g", (-1, "u")): own("v")}, G, ()), "vuw")
        self.assertEqual(order({("g", (-1, "v")): own("w")}, G, ()), "uwv")
        self.assertEqual(order({}, G, ()), "uvw")
        tree = ("f", (G,))
        self.assertEqual(order({("f", (0, "d")): part(0, "e"), ("f", (0, "e")): part(0, "c")}, tree, (0,)), "ceduvw")
        self.assertEqual(order({("f", (0, "d")): part(0, "c")}, tree, (0,)), "ecduvw")
        self.assertEqual(order({("f", (0, "e")): part(0, "c")}, tree, (0,)), "dceuvw")

    def test_what_is_of_an_earlier_pass_does_not_hold_up(self):
        sorts = (("s", (), ("u", "v", "w")),)
        book = of_rules({("g", (-1, "u")): own("v")}, sorts, (("g", "s", ()),))
        for passes, due in (("111", "1v 1u 1w"), ("211", "1v 1w 2u"), ("212", "1v 2u 2w"), ("991", "1w 9v 9u")):
            table = {("s", word): int(number) for word, number in zip("uvw", passes)}
            told = self.looked_at(book, G, {}, table)
            self.assertEqual(" ".join(f"{number}{spot[1]}" for number, spot, worth in told), due)

    def test_the_tops_downs_are_given_and_not_told(self):
        told = walked(ROW_BOOK, ("none", ()), {"from": -1, "step": 4}, passes_of(ROW_BOOK)[1])
        self.assertEqual(told, [(1, ((), "to"), 1000002), (1, ((), "sum"), 0)])

    def test_worths_without_a_wheel(self):
        tree = ("join", (("leaf", (("more", (("ab", ()),)),)), ("leaf", (("ab", ()),))))
        told = self.looked_at(LEVEL_BOOK, tree, {}, passes_of(LEVEL_BOOK)[1])
        self.assertEqual(told[-2:], [(1, ((), "size"), 8), (1, ((), "deep"), 1)])

    def test_a_book_without_worths(self):
        book = (0, (("s", (), ()), ("t", (), ())), (("f", "s", ("s", "t"), ()), ("g", "s", (), ()), ("h", "t", (), ())))
        for tree in (G, ("h", ()), ("f", (("f", (G, ("h", ()))), ("h", ())))):
            self.assertEqual(walked(book, tree, {}, {}), [])

    def test_a_sort_without_worths_within(self):
        book = (0, (("s", (), ("u",)), ("t", (), ())), (
            ("f", "s", ("t", "s"), ((-1, "u", ("plus", part(1, "u"), ONE)),)), ("g", "s", (), ((-1, "u", ONE),)),
            ("h", "t", ("t",), ()), ("i", "t", (), ()),
        ))
        tree = ("f", (("h", (("i", ()),)), ("f", (("i", ()), G))))
        told = self.looked_at(book, tree, {}, {("s", "u"): 3})
        self.assertEqual(told, [(3, ((1, 1), "u"), 1), (3, ((1,), "u"), 2), (3, ((), "u"), 3)])

    def test_what_is_given_wrong(self):
        table = passes_of(ROW_BOOK)[1]
        tree = ("some", (("same", ()), ("none", ())))
        most = 10 ** 30 - 1
        for given in ({"from": 0, "step": 0}, {"from": most, "step": -most}):
            self.looked_at(ROW_BOOK, tree, given, table)
        for given in ({}, {"from": 1}, {"from": 1, "step": 2, "at": 3}, {"from": 1, "sum": 2}, {"from": 1, "step": True},
                      {"from": None, "step": 1}, {"from": "1", "step": 1}, {"from": most + 1, "step": 1},
                      {"from": 1, "step": -most - 1}, {"from": (1,), "step": 1}):
            for wider in (NoGiven, BoughError):
                with self.subTest(given=given), self.assertRaises(wider):
                    walked(ROW_BOOK, tree, given, table)

    def test_trees_of_sixty_places(self):
        book = long_book()
        kind, table = passes_of(book)
        self.assertEqual(kind, "passes")
        told = self.looked_at(book, tower(60), {"p": 1, "q": 2, "r": 3}, table)
        self.assertEqual(len(told), 357)
        self.assertEqual(told[0], (1, ((0,), "p"), 4))

    def test_random_books_and_tables(self):
        seen = {}
        for seed in range(600):
            chance, book = random.Random(seed), random_book(seed)
            kind, table = passes_of(book)
            if kind == "stuck":
                continue
            for sort in fewest_places(book):
                tree = random_tree(chance, book, sort, chance.choice((5, 12, 60)))
                if size(tree) > 60:
                    continue
                downs = [one[1] for one in book[1] if one[0] == sort][0]
                given = {down: chance.randrange(-10 ** 30 + 1, 10 ** 30) for down in downs}
                for one in [table] + greater_tables(chance, book, table):
                    self.assertTrue(holds(book, one))
                    self.looked_at(book, tree, given, one)
            greatest = max(table.values())
            seen[greatest] = seen.get(greatest, 0) + 1
        self.assertGreater(seen[1], 20)
        self.assertGreater(seen[2], 5)
        self.assertGreater(max(seen), 2, seen)

    def test_books_made_straight(self):
        many = 0
        for seed in range(200):
            chance, book = random.Random(seed), random_book(seed)
            try:
                made = made_straight(book)
            except (Tangled, TooGreat):
                continue
            kind, table = passes_of(made)
            if kind == "passes":
                many += 1
                for sort in fewest_places(made):
                    tree = random_tree(chance, made, sort, 8)
                    given = {down: 7 for down in [one[1] for one in made[1] if one[0] == sort][0]}
                    told = self.looked_at(made, tree, given, table)
                    self.assertEqual(len(told) + len(given), len(all_spots(book, tree)))
        self.assertGreater(many, 20)

    def test_what_is_told_is_the_askers_own(self):
        table = passes_of(ROW_BOOK)[1]
        told = walked(ROW_BOOK, ("none", ()), {"from": 1, "step": 4}, table)
        told.clear()
        self.assertEqual(len(walked(ROW_BOOK, ("none", ()), {"from": 1, "step": 4}, table)), 2)


if __name__ == "__main__":
    unittest.main()
