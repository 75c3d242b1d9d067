"""Points 26 (its first two sentences) and 27 (its first one): plain books, books of one build, rows of trees."""

import random
import unittest

from boughworth.books import why_no_book
from boughworth.plainbooks import is_plain, of_one_build, row_of
from boughworth.straight import made_straight
from example_books import LEVEL_BOOK, ROW_BOOK, book_with, changed, full_book, own, part
from example_plain import row_by_the_words, two_plain_books
from example_trees import fewest_places, random_tree, size, tower
from examples import ONE

NUM = ("num", -7)


def of_formula(formula, wheel=0, sorts=(("s", (), ("u",)),)):
    """The form f has this formula, g a number."""
    heads = (("g", "s", ()), ("f", "s", ("s", "s")))
    return book_with(wheel, sorts, heads, lambda bare, form, key: formula if form[0] == "f" else ONE)


class PlainTest(unittest.TestCase):

    def told(self, book, due):
        self.assertIsNone(why_no_book(book))
        self.assertIs(is_plain(book), due)

    def test_plain(self):
        u, v = part(0, "u"), part(1, "u")
        for formula in (NUM, u, v, ("plus", u, v), ("less", u, u), ("times", u, v), ("times", NUM, ("plus", u, ONE)),
                        ("plus", ("times", u, ("less", v, ONE)), ("times", ("times", NUM, v), u))):
            self.told(of_formula(formula), True)

    def test_kinds_that_are_not_plain(self):
        u, v = part(0, "u"), part(1, "u")
        for formula in (("least", u, v), ("most", u, v), ("when", u, v, ONE), ("least", ONE, ONE), ("most", NUM, NUM),
                        ("when", ONE, ONE, ONE), ("plus", ONE, ("most", u, v)), ("times", ("when", u, ONE, NUM), v),
                        ("less", ("plus", ONE, ("least", ONE, ONE)), u)):
            self.told(of_formula(formula), False)

    def test_a_wheel(self):
        for wheel in (2, 7, 10 ** 30):
            for formula in (NUM, part(0, "u"), ("plus", part(0, "u"), part(1, "u"))):
                self.told(of_formula(formula, wheel), False)
        self.told(of_formula(own("u"), 5), False)
        self.told(ROW_BOOK, False)
        self.told(full_book(), False)

    def test_each_rule_of_each_form_counts(self):
        sorts = (("s", (), ("u", "v")), ("t", (), ("w",)))
        heads = (("g", "s", ()), ("f", "s", ("s", "t")), ("h", "t", ("s",)))
        plain = book_with(0, sorts, heads, lambda bare, form, key: ("plus", ONE, NUM))
        self.told(plain, True)
        for number, form in enumerate(plain[2]):
            for rule in range(len(form[3])):
                for bent in (("most", ONE, NUM), ("plus", ONE, ("when", ONE, NUM, NUM))):
                    self.told(changed(plain, (2, number, 3, rule, 2), bent), False)
        self.told(LEVEL_BOOK, False)

    def test_without_worths(self):
        self.told((0, (("s", (), ()),), (("g", "s", (), ()),)), True)
        self.told((2, (("s", (), ()),), (("g", "s", (), ()),)), False)

    def test_random_books(self):
        for seed in range(100):
            for book in two_plain_books(seed):
                self.told(book, True)
                self.told(made_straight(book), True)


class OneBuildTest(unittest.TestCase):

    def told(self, one, other, due):
        for book in (one, other):
            self.assertIsNone(why_no_book(book))
            self.assertIs(of_one_build(book, book), True)
        self.assertIs(of_one_build(one, other), due)
        self.assertIs(of_one_build(other, one), due)

    def built(self, sorts=(("s", (), ("u",)), ("t", (), ())), heads=None, wheel=0, formula=ONE):
        heads = heads or (("g", "s", ()), ("f", "s", ("s", "t", "s")), ("h", "t", ("s",)))
        return book_with(wheel, sorts, heads, lambda bare, form, key: formula)

    def test_whatever_worths_and_rules_they_have(self):
        one = self.built()
        for sorts in ((("s", (), ()), ("t", (), ())), (("s", (), ("x", "y", "z")), ("t", (), ("u",))),
                      (("s", (), ("v",)), ("t", (), ()))):
            self.told(one, self.built(sorts), True)
        self.told(one, self.built((("s", ("p", "q"), ("u",)), ("t", ("r",), ())), wheel=9), True)
        self.told(one, self.built(formula=("most", ONE, NUM)), True)
        self.told(one, self.built(wheel=10 ** 30), True)

    def test_names_of_sorts(self):
        one = self.built()
        other = self.built((("s", (), ("u",)), ("x", (), ())),
                           (("g", "s", ()), ("f", "s", ("s", "x", "s")), ("h", "x", ("s",))))
        self.told(one, other, False)
        self.told(one, self.built((("t", (), ()), ("s", (), ("u",)))), False)
        self.told(one, self.built((("s", (), ("u",)), ("t", (), ()), ("r", (), ()))), False)
        self.told(self.built((("s", (), ()),), (("g", "s", ()),)), self.built((("t", (), ()),), (("g", "t", ()),)), False)
        bare = (("g", "s", ()),)
        self.told(self.built(heads=bare), self.built((("s", (), ("u",)), ("x", (), ())), bare), False)

    def test_forms(self):
        g, f, h = ("g", "s", ()), ("f", "s", ("s", "t", "s")), ("h", "t", ("s",))
        one = self.built()
        self.told(one, self.built(heads=(g, f, h)), True)
        for heads in ((g, h, f), (f, g, h), (g, f), (g, f, h, ("i", "s", ())), (("i", "s", ()), f, h),
                      (("g", "t", ()), f, h), (g, f, ("h", "s", ("s",))), (g, ("f", "s", ("s", "s", "t")), h),
                      (g, ("f", "s", ("s", "t")), h), (g, ("f", "s", ("t", "s")), h), (g, f, ("h", "t", ())),
                      (g, f, ("h", "t", ("t",))), (("f", "s", ()), ("g", "s", ("s", "t", "s")), h)):
            self.told(one, self.built(heads=heads), False)

    def test_books_made_straight(self):
        for book in (ROW_BOOK, LEVEL_BOOK):
            self.told(book, made_straight(book), True)


class RowTest(unittest.TestCase):

    def told(self, one, other, tree):
        row = row_of(one, other, tree)
        self.assertIsInstance(row, tuple)
        self.assertEqual(row, row_by_the_words(one, other, tree))
        back = row_of(other, one, tree)
        self.assertEqual(back, row_by_the_words(other, one, tree))
        self.assertEqual(sorted(back), sorted(row))
        return row

    def test_of_one_place(self):
        heads = (("g", "s", ()), ("h", "t", ()))
        numbers = {"u": 5, "v": -6, "w": 7}
        for one_ups, other_ups, due in (((), (), (1,)), (("u",), (), (1, 5)), ((), ("v",), (1, -6)),
                                        (("u", "v"), ("w",), (1, 5, -6, 7)), (("v", "u"), ("u", "v"), (1, -6, 5, 5, -6)),
                                        (("u", "v", "w"), ("w", "v", "u"), (1, 5, -6, 7, 7, -6, 5))):
            one, other = [book_with(0, (("s", (), ups), ("t", (), ("u",))), heads, lambda bare, form, key:
                                    ("num", numbers[key[1]])) for ups in (one_ups, other_ups)]
            self.assertEqual(self.told(one, other, ("g", ())), due)
            self.assertEqual(self.told(one, other, ("h", ())), (1, 5, 5))

    def test_of_many_places(self):
        one = of_formula(("plus", part(0, "u"), ("times", ("num", 2), part(1, "u"))))
        other = of_formula(("less", part(0, "u"), part(1, "u")))
        g = ("g", ())
        self.assertEqual(self.told(one, other, g), (1, 1, 1))
        self.assertEqual(self.told(one, other, ("f", (g, g))), (1, 3, 0))
        self.assertEqual(self.told(one, other, ("f", (("f", (g, g)), g))), (1, 5, -1))
        self.assertEqual(self.told(one, other, ("f", (g, ("f", (g, g))))), (1, 7, 1))

    def test_parts_of_sorts_with_none_and_several_ups(self):
        """The books have unlike ups of each sort, so a row is cut otherwise at each part."""
        heads = (("g", "s", ()), ("h", "t", ()), ("f", "s", ("t", "s", "r")), ("i", "r", ("s",)))
        told = {"f": lambda read: ("plus", read[0], ("plus", read[-1], ("num", 10))), "g": lambda read: ("num", 4),
                "h": lambda read: ("num", 3), "i": lambda read: read[-1]}

        def made(ups):
            sorts = tuple((name, (), words) for name, words in zip("str", ups))

            def formula_for(bare, form, key):
                read = [part(k, up) for k, sort in enumerate(form[2]) for up in dict(zip("str", ups))[sort]]
                return told[form[0]](read or [ONE])

            return book_with(0, sorts, heads, formula_for)

        choices = [(("u",), (), ("x", "y")), (("u", "v", "w"), ("x",), ()), ((), ("y", "z"), ("u",)), ((), (), ())]
        tree = ("f", (("h", ()), ("f", (("h", ()), ("g", ()), ("i", (("g", ()),)))), ("i", (("g", ()),))))
        for one_ups in choices:
            for other_ups in choices:
                row = self.told(made(one_ups), made(other_ups), tree)
                self.assertEqual(len(row), 1 + len(one_ups[0]) + len(other_ups[0]))

    def test_great_numbers(self):
        big = ("num", 999999)
        formula = big
        for _ in range(6):
            formula = ("times", formula, big)
        one = of_formula(("times", formula, part(0, "u")))
        other = of_formula(("times", ("num", -1), ("times", part(0, "u"), part(1, "u"))))
        tree = ("g", ())
        for k in range(29):
            tree = ("f", (tree, ("g", ())))
        row = self.told(one, other, tree)
        self.assertEqual(row, (1, 999999 ** (7 * 29), -1))
        self.assertGreater(row[1], 10 ** 1200)

    def test_trees_of_sixty_places(self):
        book = book_with(0, (("s", (), ("u",)),), (("one", "s", ("s",)), ("end", "s", ())),
                         lambda bare, form, key: ("plus", part(0, "u"), ONE) if form[2] else ONE)
        double = changed(book, (2, 0, 3, 0, 2), ("times", ("num", 2), part(0, "u")))
        self.assertEqual(self.told(book, double, tower(60)), (1, 60, 2 ** 59))

    def test_random_books(self):
        many = 0
        for seed in range(150):
            chance, (one, other) = random.Random(seed), two_plain_books(seed)
            for sort in fewest_places(one):
                for most in (1, 7, 30):
                    tree = random_tree(chance, one, sort, most)
                    self.told(one, other, tree)
                    many += size(tree) > 20
        self.assertGreater(many, 20)


if __name__ == "__main__":
    unittest.main()
