"""Point 5: what a formula is, how many tuples it has, and what it reads."""

import unittest

from boughworth.formulas import is_formula, readings_of, size_of
from examples import (
    KINDS_OF_TWO, NO_WORDS, ONE, ONE_OF_EACH_KIND, X, Y, chain, chain_to_the_right, formulas_up_to, within,
)

NO_FORMULAS = [
    0, 1, -7, 10 ** 5000, True, False, None, "", "x", "num", "own.x", [], ["num", 1], ["own", "x"], {},
    {"num": 1}, {0: "num", 1: 1}, (), ((),), (1,), (None,), (True, 1), (["num"], 1), (("num",), 1), ({}, 1),
    ("num",), ("num", 1, 1), ("num", None), ("num", "1"), ("num", (1,)), ("num", [1]), ("num", {}), ("num", ONE),
    ("own",), ("own", "x", "x"), ("own", 0, "x"), ("own", X),
    ("part",), ("part", 0), ("part", "x"), ("part", 0, "x", "x"), ("part", "x", 0), ("part", None, "x"),
    ("part", "0", "x"), ("part", (0,), "x"), ("part", [0], "x"), ("part", X, "x"),
    ("when",), ("when", X), ("when", X, X), ("when", X, X, X, X), ["when", X, X, X],
    ("Num", 1), ("", 1), ("num ", 1), ("OWN", "x"), ("parts", 0, "x"), ("sum", X, Y), ("min", X, Y), ("+", X, Y),
    ("div", X, Y), ("if", X, Y, X), ("", X, Y), (None, X, Y), (0, X, Y), (X, "plus", Y), (X, X), (X,),
]


class IsFormulaTest(unittest.TestCase):

    def yes(self, thing):
        self.assertIs(is_formula(thing), True)

    def no(self, thing):
        self.assertIs(is_formula(thing), False)

    def test_each_kind_of_tuple(self):
        for formula in ONE_OF_EACH_KIND:
            with self.subTest(formula=formula):
                self.yes(formula)

    def test_each_kind_within_each_kind(self):
        for one in ONE_OF_EACH_KIND:
            for kind in KINDS_OF_TWO:
                self.yes((kind, one, ONE))
                self.yes((kind, ONE, one))
            self.yes(("when", one, one, one))

    def test_bounds_of_num(self):
        for n in (-999999, -1, 0, 1, 999999):
            with self.subTest(n=n):
                self.yes(("num", n))
        for n in (-1000000, 1000000, 10 ** 30, -10 ** 30, 10 ** 5000):
            self.no(("num", n))

    def test_bounds_of_part(self):
        for k in (0, 1, 2):
            with self.subTest(k=k):
                self.yes(("part", k, "x"))
        for k in (-1, 3, 10 ** 30):
            with self.subTest(k=k):
                self.no(("part", k, "x"))

    def test_truths_are_no_numbers(self):
        for truth in (True, False):
            with self.subTest(truth=truth):
                self.no(("num", truth))
                self.no(("part", truth, "x"))

    def test_words(self):
        for word in ("a", "z", "num", "own", "abcdefgh", "stuvwxyz"):
            with self.subTest(word=word):
                self.yes(("own", word))
                self.yes(("part", 2, word))
        for word in NO_WORDS:
            with self.subTest(word=word):
                self.no(("own", word))
                self.no(("part", 2, word))

    def test_things_that_are_none(self):
        for at, thing in enumerate(NO_FORMULAS):
            with self.subTest(at=at):
                self.no(thing)

    def test_too_few_and_too_many_things_of_each_kind(self):
        for formula in ONE_OF_EACH_KIND:
            with self.subTest(formula=formula):
                self.no(formula[:1])
                self.no(formula[:-1])
                self.no(formula + (X,))
                self.no(formula + formula[-1:])

    def test_lists_in_the_place_of_tuples(self):
        for formula in ONE_OF_EACH_KIND:
            with self.subTest(formula=formula):
                self.no(list(formula))
                self.no(("plus", list(formula), ONE))
                self.no(("plus", ONE, list(formula)))

    def test_another_first_word_of_each_kind(self):
        for formula in ONE_OF_EACH_KIND:
            for kind in ("other", "", "Plus", None, 0, ("plus",), ["plus"], {"plus": 2}):
                with self.subTest(formula=formula, kind=kind):
                    self.no((kind,) + formula[1:])

    def test_a_spoilt_formula_at_each_place_of_each_kind(self):
        for spoilt in NO_FORMULAS:
            for kind in KINDS_OF_TWO:
                self.no((kind, spoilt, ONE))
                self.no((kind, ONE, spoilt))
            for at in range(3):
                inner = [ONE, ONE, ONE]
                inner[at] = spoilt
                self.no(("when",) + tuple(inner))

    def test_a_spoilt_formula_deep_within(self):
        for spoilt in NO_FORMULAS:
            self.no(within(7, spoilt, lambda inner: ("plus", inner, ONE)))
            self.no(within(7, spoilt, lambda inner: ("most", ONE, inner)))
            self.no(within(4, spoilt, lambda inner: ("when", ONE, inner, ONE)))

    def test_just_fifteen_tuples(self):
        for kind in KINDS_OF_TWO:
            with self.subTest(kind=kind):
                self.yes(chain(15, kind))
                self.yes(chain(14, kind))
                self.yes(chain_to_the_right(15, kind))
        self.yes(("when", chain(5), chain(5), chain(4)))
        self.yes(("when", ONE, ONE, chain(12)))

    def test_sixteen_and_seventeen_tuples(self):
        for kind in KINDS_OF_TWO:
            with self.subTest(kind=kind):
                self.no(chain(16, kind))
                self.no(chain(17, kind))
                self.no(chain_to_the_right(17, kind))
        self.no(("when", chain(5), chain(5), chain(5)))
        self.no(("when", chain(5), chain(5), chain(6)))
        self.no(("when", ONE, ONE, chain(13)))

    def test_a_tuple_that_stands_there_several_times_counts_each_time(self):
        seven = within(2, X, lambda inner: ("times", inner, inner))
        fifteen = ("times", seven, seven)
        self.yes(fifteen)
        self.no(("plus", fifteen, X))
        self.no(("times", fifteen, fifteen))
        self.no(within(11, X, lambda inner: ("times", inner, inner)))

    def test_formulas_of_books_made_straight_are_held_to_fifteen_too(self):
        self.no(chain(399))
        self.no(chain(400))

    def test_things_two_hundred_within_one_another(self):
        for wrap in (
            lambda inner: (inner,), lambda inner: [inner], lambda inner: {"num": inner}, lambda inner: ("num", inner),
            lambda inner: ("plus", inner, ONE), lambda inner: ("plus", ONE, inner), lambda inner: (inner, ONE, ONE),
        ):
            for thing in (ONE, (), [], {}, None, 1, "x"):
                deep = within(199, thing, wrap)
                self.no(deep)
                self.no(("num", deep))
                self.no(("own", deep))
                self.no(("part", deep, "x"))
                self.no(("plus", ONE, deep))
                self.no((deep, ONE, ONE))

    def test_things_of_ten_thousand_in_all(self):
        for thing in (
            ("num",) + (1,) * 9998, ("plus",) + (ONE,) * 3332, ("when",) + (X,) * 3332, (ONE,) * 3333,
            [ONE] * 3333, [1] * 9999, dict.fromkeys(range(5000), 1), "x" * 4000, chain(3333), chain_to_the_right(3333),
        ):
            self.no(thing)
            self.no(("plus", thing, ONE))
            self.no(("plus", ONE, thing))
            self.no(("own", thing))
            self.no(("num", thing))

    def test_nothing_is_changed(self):
        inner = ["num", 1]
        thing = ("plus", ONE, inner)
        self.no(thing)
        self.assertEqual(thing, ("plus", ONE, ["num", 1]))
        self.assertEqual(inner, ["num", 1])


class SizeOfTest(unittest.TestCase):

    def test_each_kind(self):
        told = [size_of(formula) for formula in ONE_OF_EACH_KIND]
        self.assertEqual(told, [1, 1, 1, 3, 3, 3, 3, 3, 4])

    def test_sizes_from_one_to_four_hundred(self):
        for size in [1] + list(range(3, 401)):
            self.assertEqual(size_of(chain(size)), size)

    def test_grown_to_the_right(self):
        for size in (3, 15, 17, 399):
            self.assertEqual(size_of(chain_to_the_right(size)), size)

    def test_a_tuple_that_stands_there_several_times_counts_each_time(self):
        sizes = [size_of(within(times, X, lambda inner: ("times", inner, inner))) for times in range(8)]
        self.assertEqual(sizes, [1, 3, 7, 15, 31, 63, 127, 255])

    def test_all_three_of_a_when(self):
        self.assertEqual(size_of(("when", chain(3), chain(5), chain(7))), 16)


class ReadingsOfTest(unittest.TestCase):

    def test_none_where_there_are_none(self):
        for formula in (ONE, ("plus", ONE, ONE), ("when", ONE, ONE, ONE), chain(15), chain(400)):
            self.assertEqual(readings_of(formula), [])

    def test_a_reading_reads_itself(self):
        for reading in (("own", "x"), ("own", "abcdefgh"), ("part", 0, "x"), ("part", 1, "x"), ("part", 2, "x")):
            told = readings_of(reading)
            self.assertIsInstance(told, list)
            self.assertEqual(told, [reading])

    def test_both_sides_of_each_kind_from_left_to_right(self):
        for kind in KINDS_OF_TWO:
            with self.subTest(kind=kind):
                self.assertEqual(readings_of((kind, X, Y)), [X, Y])
                self.assertEqual(readings_of((kind, Y, X)), [Y, X])
                self.assertEqual(readings_of((kind, ONE, X)), [X])
                self.assertEqual(readings_of((kind, X, ONE)), [X])

    def test_all_three_of_a_when_in_either_case(self):
        a, b, c = ("own", "a"), ("own", "b"), ("own", "c")
        self.assertEqual(readings_of(("when", b, c, a)), [b, c, a])
        self.assertEqual(readings_of(("when", ("num", 0), c, a)), [c, a])
        self.assertEqual(readings_of(("when", ("num", 1), c, a)), [c, a])

    def test_each_once_where_it_first_stands(self):
        a, b, c = ("own", "a"), ("part", 2, "a"), ("own", "c")
        formula = ("plus", ("times", b, ("less", c, b)), ("when", c, ("most", a, b), a))
        self.assertEqual(readings_of(formula), [b, c, a])

    def test_own_and_parts_of_one_word_are_unlike(self):
        readings = [("part", 2, "x"), ("own", "x"), ("part", 0, "x"), ("part", 1, "x")]
        formula = ("plus", ("plus", readings[0], readings[1]), ("plus", readings[2], readings[3]))
        self.assertEqual(readings_of(formula), readings)

    def test_deep_on_the_left_comes_ahead_of_shallow_on_the_right(self):
        a, b, c, d = [("own", word) for word in "abcd"]
        self.assertEqual(readings_of(("plus", ("plus", ("plus", d, c), b), a)), [d, c, b, a])
        self.assertEqual(readings_of(("plus", a, ("plus", b, ("plus", c, d)))), [a, b, c, d])

    def test_as_a_plain_walk_tells_them(self):
        def walk(formula, found):
            if formula[0] in ("own", "part"):
                if formula not in found:
                    found.append(formula)
            elif formula[0] != "num":
                for inner in formula[1:]:
                    walk(inner, found)
            return found

        leaves = [ONE, X, Y, ("part", 0, "x"), ("own", "y")]
        for formula in formulas_up_to(2, leaves):
            self.assertEqual(readings_of(formula), walk(formula, []))

    def test_formulas_of_four_hundred_tuples(self):
        words = [a + b for a in "abcdefghijklmno" for b in "abcdefghijklmno"][:200]
        left, right = ("own", words[0]), ("own", words[-1])
        for word in words[1:]:
            left = ("plus", left, ("own", word))
        for word in reversed(words[:-1]):
            right = ("less", ("own", word), right)
        self.assertEqual(size_of(left), 399)
        self.assertEqual(readings_of(left), [("own", word) for word in words])
        self.assertEqual(readings_of(right), [("own", word) for word in words])
        self.assertEqual(readings_of(chain(400, leaf=X)), [X])

    def test_the_told_list_is_the_askers_own(self):
        formula = ("plus", X, Y)
        told = readings_of(formula)
        told.append("spoilt")
        told[0] = None
        self.assertEqual(readings_of(formula), [X, Y])
        self.assertEqual(formula, ("plus", X, Y))
        self.assertIsNot(readings_of(formula), readings_of(formula))
        empty = readings_of(ONE)
        empty.append(X)
        self.assertEqual(readings_of(ONE), [])


if __name__ == "__main__":
    unittest.main()
