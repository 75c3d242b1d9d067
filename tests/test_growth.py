"""Point 14: grown sorts, least sizes, least trees, live forms, trees counted and listed."""

import math
import unittest

from boughworth.errors import BoughError, NoTree, TooMany
from boughworth.growth import least_sizes, least_tree, live_forms, many_trees, trees_of
from boughworth.straight import made_straight
from boughworth.trees import is_tree, sort_of
from example_books import LEVEL_BOOK, ROW_BOOK, book_with, full_book
from example_trees import fewest_places, random_book, size, trees_by_the_words, tower
from examples import ONE


def of_heads(*heads):
    """A book of these forms, of the sorts a to d, without worths."""
    return book_with(0, tuple((name, (), ()) for name in "abcd"), heads, lambda bare, form, key: ONE)


BINARY = of_heads(("leaf", "a", ()), ("join", "a", ("a", "a")))
ROWS = of_heads(("end", "a", ()), ("one", "a", ("a",)))
# Of b there are two trees of each size above 1, each half of c's.
TWO_ENDS = of_heads(("x", "b", ()), ("y", "b", ()), ("more", "b", ("b",)), ("both", "c", ("b", "b")))
# As great as least trees can be: 1, 4, 13, 40.
STEEP = of_heads(("w", "d", ("c", "c", "c")), ("v", "c", ("b", "b", "b")), ("u", "b", ("a", "a", "a")), ("t", "a", ()),
                 ("s", "d", ("d",)), ("r", "c", ("d", "b")))
# a is grown; b asks itself, c and d one another, and bad asks both kinds.
NOT_GROWN = of_heads(("leaf", "a", ()), ("self", "b", ("b",)), ("selfa", "b", ("a", "b")), ("there", "c", ("d", "a")),
                     ("back", "d", ("c",)), ("bad", "a", ("a", "b")), ("good", "a", ("a",)))
NO_FORMS = of_heads(("leaf", "b", ()), ("fork", "b", ("b", "a")), ("fine", "c", ("b",)))
NONE_AT_ALL = of_heads(("f", "a", ("a",)), ("g", "b", ("a", "b")), ("h", "c", ("d",)), ("i", "d", ("c",)))
BOOKS = [BINARY, ROWS, TWO_ENDS, STEEP, NOT_GROWN, NO_FORMS, NONE_AT_ALL, LEVEL_BOOK, ROW_BOOK, full_book()]
NO_SORTS = ["", "e", "leaf", "A", "a ", "aa", "join", "none at all", "x" * 4000]


def refuses(case, error, call):
    for wider in (error, BoughError, ValueError):
        with case.assertRaises(wider):
            call()


class LeastTest(unittest.TestCase):

    def test_least_sizes(self):
        self.assertEqual(least_sizes(BINARY), {"a": 1})
        self.assertEqual(least_sizes(ROWS), {"a": 1})
        self.assertEqual(least_sizes(TWO_ENDS), {"b": 1, "c": 3})
        self.assertEqual(least_sizes(STEEP), {"a": 1, "b": 4, "c": 13, "d": 40})
        self.assertEqual(least_sizes(LEVEL_BOOK), {"tree": 2, "word": 1})

    def test_sorts_that_are_not_grown(self):
        self.assertEqual(least_sizes(NOT_GROWN), {"a": 1})
        self.assertEqual(least_sizes(NO_FORMS), {"b": 1, "c": 2})
        self.assertEqual(least_sizes(NONE_AT_ALL), {})

    def test_the_fewest_though_another_form_stands_ahead(self):
        for heads in ((("great", "a", ("b", "b", "b")), ("small", "a", ("b",)), ("leaf", "b", ())),
                      (("small", "a", ("b",)), ("great", "a", ("b", "b", "b")), ("leaf", "b", ()))):
            self.assertEqual(least_sizes(of_heads(*heads)), {"a": 2, "b": 1})
            self.assertEqual(least_tree(of_heads(*heads), "a"), ("small", (("leaf", ()),)))
        round_about = of_heads(("f", "a", ("b", "b")), ("g", "b", ("c",)), ("h", "c", ()), ("i", "b", ("a", "a")),
                               ("j", "d", ("a", "b", "c")), ("k", "c", ("d",)))
        self.assertEqual(least_sizes(round_about), {"a": 5, "b": 2, "c": 1, "d": 9})

    def test_least_trees_are_of_the_sort_and_so_few_places(self):
        for book in BOOKS + [random_book(seed) for seed in range(80)]:
            least = fewest_places(book)
            self.assertEqual(least_sizes(book), least)
            for sort, many in least.items():
                tree = least_tree(book, sort)
                self.assertIs(is_tree(book, tree), True)
                self.assertEqual((sort_of(book, tree), size(tree)), (sort, many))
                self.assertEqual(least_tree(book, sort), tree)

    def test_no_tree(self):
        for book, sorts in ((BINARY, "bcd"), (NOT_GROWN, "bcd"), (NO_FORMS, "ad"), (NONE_AT_ALL, "abcd")):
            for sort in sorts:
                refuses(self, NoTree, lambda: least_tree(book, sort))
        for sort in NO_SORTS:
            refuses(self, NoTree, lambda: least_tree(BINARY, sort))

    def test_a_told_dict_that_was_changed_changes_nothing(self):
        told = least_sizes(TWO_ENDS)
        told["b"] = 7
        told["a"] = 1
        self.assertEqual(least_sizes(TWO_ENDS), {"b": 1, "c": 3})
        self.assertEqual(least_tree(TWO_ENDS, "c")[0], "both")


class LiveFormsTest(unittest.TestCase):

    def test_all(self):
        self.assertEqual(live_forms(STEEP), ["w", "v", "u", "t", "s", "r"])
        self.assertEqual(live_forms(LEVEL_BOOK), ["leaf", "join", "ab", "more"])

    def test_in_the_books_order_without_those_that_are_not(self):
        self.assertEqual(live_forms(NOT_GROWN), ["leaf", "good"])
        self.assertEqual(live_forms(NO_FORMS), ["leaf", "fine"])
        self.assertEqual(live_forms(NONE_AT_ALL), [])
        turned = of_heads(("good", "a", ("a",)), ("bad", "a", ("b",)), ("leaf", "a", ()))
        self.assertEqual(live_forms(turned), ["good", "leaf"])

    def test_as_the_words_tell(self):
        for book in BOOKS + [random_book(seed) for seed in range(80)]:
            grown = fewest_places(book)
            due = [form[0] for form in book[2] if all(part in grown for part in form[2])]
            self.assertEqual(live_forms(book), due)

    def test_a_told_list_that_was_changed_changes_nothing(self):
        live_forms(NOT_GROWN).append("bad")
        self.assertEqual(live_forms(NOT_GROWN), ["leaf", "good"])


class ManyTreesTest(unittest.TestCase):

    def test_binary_trees(self):
        for many in range(1, 61):
            joins = (many - 1) // 2
            due = math.comb(2 * joins, joins) // (joins + 1) if many % 2 else 0
            self.assertEqual(many_trees(BINARY, "a", many), due)
        self.assertEqual(many_trees(BINARY, "a", 59), 1002242216651368)

    def test_rows(self):
        for many in range(1, 61):
            self.assertEqual(many_trees(ROWS, "a", many), 1)
            self.assertEqual(many_trees(TWO_ENDS, "b", many), 2)
            self.assertEqual(many_trees(TWO_ENDS, "c", many), 4 * max(0, many - 2))

    def test_great_numbers_are_exact(self):
        nine = [("f" + letter, "a", ("a",)) for letter in "abcdefghi"]
        self.assertEqual(many_trees(of_heads(("leaf", "a", ()), *nine), "a", 60), 9 ** 59)
        three = of_heads(("leaf", "a", ()), ("f", "a", ("a", "a", "a")))
        for forks in range(20):
            due = math.comb(3 * forks, forks) // (2 * forks + 1)
            self.assertEqual(many_trees(three, "a", 3 * forks + 1), due)
        self.assertEqual(many_trees(three, "a", 60), 0)

    def test_none_below_the_least_size(self):
        for sort, least in (("a", 1), ("b", 4), ("c", 13), ("d", 40)):
            for many in range(1, 61):
                told = many_trees(STEEP, sort, many)
                self.assertTrue(told == 0 if many < least else told == 1 if many == least else told >= 0)
        self.assertEqual([many_trees(STEEP, "d", many) for many in range(40, 46)], [1] * 6)

    def test_none_of_other_sorts(self):
        for many in (1, 2, 30, 60):
            for sort in "bcd":
                self.assertEqual(many_trees(NOT_GROWN, sort, many), 0)
            for sort in NO_SORTS:
                self.assertEqual(many_trees(BINARY, sort, many), 0)
                self.assertEqual(trees_of(BINARY, sort, many), [])

    def test_as_many_as_the_words_tell(self):
        for book in BOOKS + [random_book(seed) for seed in range(25)]:
            for sort in [one[0] for one in book[1]]:
                for many in range(1, 6):
                    self.assertEqual(many_trees(book, sort, many), len(trees_by_the_words(book, sort, many)))

    def test_a_size_below_one_or_beyond_sixty(self):
        for many in (0, -1, -60):
            self.assertEqual(many_trees(BINARY, "a", many), 0)
            self.assertEqual(trees_of(BINARY, "a", many), [])
        self.assertEqual(many_trees(ROWS, "a", 61), 1)
        self.assertEqual(trees_of(ROWS, "a", 61), [tower(61)])


class TreesOfTest(unittest.TestCase):

    def test_listed(self):
        leaf = ("leaf", ())
        pair = ("join", (leaf, leaf))
        self.assertEqual(trees_of(BINARY, "a", 1), [leaf])
        self.assertEqual(trees_of(BINARY, "a", 2), [])
        self.assertCountEqual(trees_of(BINARY, "a", 5), [("join", (leaf, pair)), ("join", (pair, leaf))])
        self.assertCountEqual(trees_of(TWO_ENDS, "c", 3),
                              [("both", ((one, ()), (other, ()))) for one in "xy" for other in "xy"])

    def test_as_the_words_tell(self):
        for book in BOOKS + [random_book(seed) for seed in range(25)]:
            for sort in [one[0] for one in book[1]]:
                for many in range(1, 6):
                    due = trees_by_the_words(book, sort, many)
                    if len(due) <= 1000:
                        told = trees_of(book, sort, many)
                        self.assertEqual(sorted(told), sorted(due))
                        self.assertEqual(trees_of(book, sort, many), told)

    def test_each_once_of_the_sort_and_of_so_many_places(self):
        for book in BOOKS:
            for sort in [one[0] for one in book[1]]:
                for many in (1, 7, 13, 14, 30, 40, 41, 53, 60):
                    if many_trees(book, sort, many) > 1000:
                        refuses(self, TooMany, lambda: trees_of(book, sort, many))
                        continue
                    told = trees_of(book, sort, many)
                    self.assertIsInstance(told, list)
                    self.assertEqual(len(told), many_trees(book, sort, many))
                    self.assertEqual(len(set(told)), len(told))
                    for tree in told:
                        self.assertIs(is_tree(book, tree), True)
                        self.assertEqual((sort_of(book, tree), size(tree)), (sort, many))

    def test_one_of_sixty_places(self):
        self.assertEqual(trees_of(ROWS, "a", 60), [tower(60)])

    def test_few_trees_though_there_are_many_of_other_sorts_and_sizes(self):
        """Of b of two places just one, of the least tree of a, whose other trees are very many."""
        five = [("f" + letter, "a", ("a",)) for letter in "abcde"]
        book = of_heads(("leaf", "a", ()), *five, ("top", "b", ("a",)), ("tip", "c", ("d",)), ("end", "d", ()),
                        ("run", "d", ("d",)))
        self.assertEqual(many_trees(book, "a", 60), 5 ** 59)
        self.assertEqual(len(trees_of(book, "c", 60)), 1)
        self.assertEqual(trees_of(book, "b", 2), [("top", (("leaf", ()),))])
        refuses(self, TooMany, lambda: trees_of(book, "b", 60))

    def test_few_trees_though_their_parts_have_many_of_other_sizes(self):
        """Of d there is one tree of 13 places, and none of fewer; of a there are 4 ** 14 trees of 15 places."""
        four = [("f" + letter, "a", ("a",)) for letter in "abcd"]
        book = of_heads(("leaf", "a", ()), *four, ("u", "b", ()), ("v", "c", ("b", "b", "b")), ("w", "d", ("c", "c", "c")),
                        ("top", "d", ("a", "d")))
        self.assertEqual(many_trees(book, "d", 17), 4 ** 2 + 1)
        self.assertEqual(len(set(trees_of(book, "d", 17))), 17)

    def test_just_a_thousand(self):
        """Ten trees of b, of two places each, and three of them beneath i."""
        ends = [("f" + letter, "a", ()) for letter in "abcde"]
        book = of_heads(*ends, ("g", "b", ("a",)), ("h", "b", ("a",)), ("i", "c", ("b", "b", "b")), ("j", "d", ("c",)))
        for sort, many in (("c", 7), ("d", 8)):
            self.assertEqual(many_trees(book, sort, many), 1000)
            told = trees_of(book, sort, many)
            self.assertEqual((len(told), len(set(told))), (1000, 1000))

    def test_one_more_than_a_thousand(self):
        """As many trees of c as there are ways to share out all but two places to five rows."""
        book = of_heads(("end", "a", ()), ("one", "a", ("a",)), ("few", "b", ("a", "a", "a")),
                        ("all", "c", ("b", "a", "a")))
        self.assertEqual(many_trees(book, "c", 17), 1001)
        refuses(self, TooMany, lambda: trees_of(book, "c", 17))
        self.assertEqual(len(set(trees_of(book, "c", 16))), 715)

    def test_around_a_thousand(self):
        """Two trees of b of each size: 8 for each of the ways to share out all but one place to three of them."""
        book = of_heads(("x", "b", ()), ("y", "b", ()), ("more", "b", ("b",)), ("all", "c", ("b", "b", "b")))
        for many in range(4, 30):
            due = 8 * math.comb(many - 2, 2)
            self.assertEqual(many_trees(book, "c", many), due)
            if due <= 1000:
                self.assertEqual(len(set(trees_of(book, "c", many))), due)
            else:
                refuses(self, TooMany, lambda: trees_of(book, "c", many))

    def test_the_same_again_when_what_was_told_was_changed(self):
        told = trees_of(TWO_ENDS, "c", 4)
        before = list(told)
        told.clear()
        told.append("spoilt")
        self.assertEqual(trees_of(TWO_ENDS, "c", 4), before)

    def test_by_books_made_straight(self):
        made = made_straight(ROW_BOOK)
        self.assertEqual(least_sizes(made), {"row": 1, "cell": 1})
        self.assertEqual(live_forms(made), live_forms(ROW_BOOK))
        self.assertEqual(trees_of(made, "row", 5), trees_of(ROW_BOOK, "row", 5))
        self.assertEqual(many_trees(made, "row", 59), 2 ** 29)


if __name__ == "__main__":
    unittest.main()
