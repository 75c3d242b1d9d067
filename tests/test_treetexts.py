"""Point 13: trees written as texts, and texts read as trees."""

import random
import unittest

from boughworth.errors import BoughError, NoText
from boughworth.straight import made_straight
from boughworth.treetexts import read_tree, show_tree
from example_books import LEVEL_BOOK, ROW_BOOK, book_with
from example_trees import fewest_places, random_book, random_tree, size, tower
from examples import ONE, within

SORTS = (("a", ("d",), ("u",)), ("b", (), ()), ("none", (), ("u",)))
HEADS = (
    ("nil", "a", ()), ("one", "a", ("a",)), ("two", "a", ("a", "b")), ("three", "a", ("b", "a", "a")),
    ("dot", "b", ()), ("line", "b", ("b",)), ("ni", "b", ()), ("never", "none", ("none",)), ("abcdefgh", "a", ("a", "a")),
)
BOOK = book_with(2, SORTS, HEADS, lambda bare, form, key: ONE)

NIL, DOT = ("nil", ()), ("dot", ())
WRITTEN = {
    "nil": NIL,
    "dot": DOT,
    "one(nil)": ("one", (NIL,)),
    "two(nil, dot)": ("two", (NIL, DOT)),
    "two(one(nil), line(dot))": ("two", (("one", (NIL,)), ("line", (DOT,)))),
    "three(dot, nil, nil)": ("three", (DOT, NIL, NIL)),
    "three(ni, one(one(nil)), two(nil, line(ni)))":
        ("three", (("ni", ()), ("one", (("one", (NIL,)),)), ("two", (NIL, ("line", (("ni", ()),)))))),
    "abcdefgh(nil, abcdefgh(nil, nil))": ("abcdefgh", (NIL, ("abcdefgh", (NIL, NIL)))),
}


def written(tree):
    """Point 13 word by word."""
    return tree[0] + ("(" + ", ".join(written(inner) for inner in tree[1]) + ")" if tree[1] else "")


def wide(rounds):
    return within(rounds, NIL, lambda inner: ("abcdefgh", (inner, inner)))


class ShowTreeTest(unittest.TestCase):

    def test_written(self):
        for text, tree in WRITTEN.items():
            self.assertEqual(show_tree(tree), text)
        join = ("join", (("leaf", ()), ("bend", (("leaf", ()),))))
        self.assertEqual(show_tree(join), "join(leaf, bend(leaf))")

    def test_sixty_places(self):
        self.assertEqual(show_tree(tower(60, end="nil")), "one(" * 59 + "nil" + ")" * 59)
        tree = within(29, NIL, lambda inner: ("two", (inner, DOT)))
        self.assertEqual(show_tree(tree), "two(" * 29 + "nil" + ", dot)" * 29)
        tree = within(29, NIL, lambda inner: ("abcdefgh", (NIL, inner)))
        self.assertEqual(show_tree(tree), "abcdefgh(nil, " * 29 + "nil" + ")" * 29)

    def test_as_the_words_tell(self):
        for seed in range(60):
            book = random_book(seed)
            for sort in fewest_places(book):
                tree = random_tree(random.Random(seed), book, sort, 60)
                self.assertEqual(show_tree(tree), written(tree))


class ReadTreeTest(unittest.TestCase):

    def refused(self, text, book=BOOK):
        with self.subTest(text=text), self.assertRaises(NoText):
            read_tree(book, text)

    def test_read(self):
        for text, tree in WRITTEN.items():
            self.assertEqual(read_tree(BOOK, text), tree)

    def test_each_written_text_is_read_to_the_very_tree(self):
        seen = 0
        for seed in range(60):
            book = random_book(seed)
            for sort in fewest_places(book):
                for most in (1, 5, 20, 60):
                    tree = random_tree(random.Random(seed), book, sort, most)
                    seen = max(seen, size(tree))
                    self.assertEqual(read_tree(book, show_tree(tree)), tree)
        self.assertEqual(seen, 60)

    def test_one_to_sixty_places(self):
        for many in range(1, 61):
            tree = tower(many, end="nil")
            self.assertEqual(read_tree(BOOK, show_tree(tree)), tree)
        for tree in (wide(4), ("one", (within(29, NIL, lambda inner: ("two", (inner, DOT))),))):
            self.assertEqual(read_tree(BOOK, show_tree(tree)), tree)

    def test_by_books_made_straight(self):
        text = "some(same, some(squared, none))"
        self.assertEqual(read_tree(made_straight(ROW_BOOK), text), read_tree(ROW_BOOK, text))
        self.assertEqual(show_tree(read_tree(ROW_BOOK, text)), text)

    def test_refused_is_a_bough_error_and_a_value_error(self):
        for wider in (NoText, BoughError, ValueError):
            for text in ("", "nowhere", "one(nil", "two(nil)"):
                with self.assertRaises(wider):
                    read_tree(BOOK, text)

    def test_nothing_and_names_of_no_form(self):
        for text in ("", " ", "\n", "(", ")", ",", ", ", "()", "(nil)", "nowhere", "a", "b", "nil1", "nilnil", "none",
                     "one(nowhere)", "one(a)", "two(nil, nowhere)", "n", "abcdefghi", "nil nil", "one nil", "None"):
            self.refused(text)

    def test_another_number_of_parts(self):
        for text in ("one", "two", "three", "two(nil)", "two(dot)", "two(nil, dot, dot)", "one(nil, nil)", "nil(nil)",
                     "three(dot, nil)", "three(dot, nil, nil, nil)", "dot(dot)", "line", "two(nil, line)"):
            self.refused(text)

    def test_parts_of_another_sort(self):
        for text in ("one(dot)", "two(dot, nil)", "two(nil, nil)", "three(nil, dot, nil)", "line(nil)",
                     "two(nil, line(nil))", "two(dot, dot)", "never(nil)", "never(never)"):
            self.refused(text)

    def test_each_sign_more_at_each_place(self):
        for text in WRITTEN:
            for k in range(len(text) + 1):
                for sign in " ,()\nNa.-_0~":
                    self.refused(text[:k] + sign + text[k:])
                self.refused(text[:k] + "()" + text[k:])
                self.refused(text[:k] + ", " + text[k:])

    def test_each_sign_fewer(self):
        for text in WRITTEN:
            for k in range(len(text)):
                if text != "nil" or k != 2:
                    self.refused(text[:k] + text[k + 1:])
        self.assertEqual(read_tree(BOOK, "ni"), ("ni", ()))

    def test_each_sign_another_one(self):
        for text in WRITTEN:
            for k in range(len(text)):
                for sign in " ,()\nN[]{}<>;:/":
                    if text[k] != sign:
                        self.refused(text[:k] + sign + text[k + 1:])

    def test_blanks_of_other_kinds(self):
        for text in ("two(nil,dot)", "two(nil,  dot)", "two(nil ,dot)", "two(nil , dot)", "two (nil, dot)",
                     "two( nil, dot)", "two(nil, dot )", "two(nil, dot) ", " two(nil, dot)", "two(nil,\ndot)",
                     "two(nil, dot)\n", "two(nil,\n dot)", "\ntwo(nil, dot)", "one\n(nil)", "two(nil dot)"):
            self.refused(text)

    def test_brackets_and_commas_at_wrong_places(self):
        for text in ("nil()", "one(nil())", "one()", "one(nil))", "one((nil))", "(one(nil))", "one(nil)(nil)", "one)nil(",
                     "one(nil", "one nil)", "two(nil, dot,)", "two(, nil, dot)", "two(nil,, dot)", "two(nil, , dot)",
                     "two(nil), dot", "two(nil, dot), ", "two(one(nil, dot))", "two(one(nil), dot", "two, nil, dot",
                     "one(one(nil)", "one(one(nil", "two(one, nil, dot)", "three(dot, one(nil, nil))"):
            self.refused(text)

    def test_text_behind_the_end_or_ahead(self):
        for text in ("nil nil", "nil, nil", "nilx", "one(nil)nil", "one(nil) nil", "one(nil), nil", "one(nil)one(nil)",
                     "nil one(nil)", "x one(nil)", "two(nil, dot)x", "nil;", "# nil"):
            self.refused(text)

    def test_great_letters(self):
        for text in ("Nil", "NIL", "nIl", "One(nil)", "one(Nil)", "two(nil, DOT)"):
            self.refused(text)

    def test_trees_of_another_book(self):
        self.refused("nil", LEVEL_BOOK)
        self.refused("ab")
        self.refused("join(ab, ab)", LEVEL_BOOK)
        self.assertEqual(read_tree(LEVEL_BOOK, "leaf(ab)"), ("leaf", (("ab", ()),)))

    def test_sixty_one_places_and_more(self):
        for tree in (tower(61, end="nil"), tower(62, end="nil"), tower(100, end="nil"), tower(200, end="nil"), wide(5),
                     wide(8), within(30, NIL, lambda inner: ("two", (inner, DOT)))):
            self.assertGreater(size(tree), 60)
            self.refused(written(tree))

    def test_long_texts(self):
        for text in ("one(" * 999 + "nil", "one(" * 998 + "nil" + ")" * 5, "(" * 4000, ")" * 4000, "," * 4000, " " * 4000,
                     "nil" * 1333, "nil " * 1000, "nil, " * 800, "x" * 4000, "one " * 1000, "(nil)" * 800,
                     "one(nil)" * 500, "two(" * 1000, "()" * 2000, "\n" * 4000, "three(" * 600, "nil" + " " * 3997,
                     "abcdefgh(nil, " * 280, "one(" * 666 + "nil" + ")" * 666):
            self.assertLessEqual(len(text), 4000)
            self.refused(text)

    def test_the_same_again_and_nothing_changed(self):
        for text, tree in WRITTEN.items():
            self.assertEqual(read_tree(BOOK, text), read_tree(BOOK, text))
            self.assertEqual(show_tree(tree), show_tree(tree))
        self.assertEqual(BOOK, book_with(2, SORTS, HEADS, lambda bare, form, key: ONE))


if __name__ == "__main__":
    unittest.main()
