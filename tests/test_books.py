"""Points 8, 9 and 10: what a book is, what its rules read, and why a thing is no book."""

import itertools
import unittest

from boughworth.books import need_book, rule_at, why_no_book
from boughworth.errors import BoughError, NoBook
from example_books import (
    DEEP_THINGS, FULL_HEADS, FULL_SORTS, LEVEL_BOOK, ODD_THINGS, ROW_BOOK, book_with, changed, due_keys, found_at,
    full_book, own, part, paths_of, readable,
)
from examples import KINDS_OF_TWO, NO_WORDS, ONE, chain, within

LEAST_BOOK = (0, (("a", (), ()),), (("f", "a", (), ()),))
FAULTS = ["shape", "names", "rules", "formula", "wheel"]
NO_WHOLE_NUMBERS = [True, False, None, "0", "", (), (0,), [], [0], {}]


def form_of(name):
    return {form[0]: form for form in full_book()[2]}[name]


class BooksThatAreTest(unittest.TestCase):

    def yes(self, book):
        self.assertIsNone(why_no_book(book))
        self.assertIsNone(need_book(book))

    def test_books_of_all_kinds(self):
        for book in (LEAST_BOOK, LEVEL_BOOK, ROW_BOOK, full_book()):
            self.yes(book)

    def test_wheels(self):
        for wheel in (0, 2, 3, 999999, 10 ** 29, 10 ** 30 - 1, 10 ** 30):
            self.yes(changed(LEVEL_BOOK, (0,), wheel))
        for wheel in (2, 3, 10 ** 30):
            self.yes(changed(ROW_BOOK, (0,), wheel))
            self.yes(full_book(wheel))

    def test_one_to_four_sorts(self):
        sorts = tuple((name, (), ()) for name in "abcd")
        for many in range(1, 5):
            self.yes((0, sorts[:many], LEAST_BOOK[2]))

    def test_one_to_ten_forms(self):
        forms = tuple((name, "a", (), ()) for name in "abcdefghij")
        for many in range(1, 11):
            self.yes((0, LEAST_BOOK[1], forms[:many]))

    def test_none_to_three_worths_and_parts(self):
        for downs, ups in itertools.product(range(4), range(4)):
            for parts in range(4):
                sorts = (("a", tuple("pqr"[:downs]), tuple("xyz"[:ups])),)
                heads = (("f", "a", ("a",) * parts), ("g", "a", ()))
                self.yes(book_with(2, sorts, heads, lambda bare, form, key: ONE))

    def test_sorts_forms_and_worths_may_be_called_alike(self):
        sorts = (("own", ("down",), ("own",)), ("up", ("own",), ("down",)))
        heads = (("own", "own", ("own", "up")), ("up", "up", ("up",)))
        self.yes(book_with(2, sorts, heads, lambda bare, form, key: own("own")))

    def test_words_of_eight_letters(self):
        long = "abcdefgh"
        sorts = ((long, (long,), ("ijklmnop",)),)
        self.yes(book_with(2, sorts, ((long, long, (long, long, long)),), lambda bare, form, key: part(2, long)))

    def test_a_rule_may_read_whatever_point_9_tells(self):
        book = full_book()
        for f, form in enumerate(book[2]):
            for r in range(len(form[3])):
                for reading in readable(book, form):
                    self.yes(changed(book, (2, f, 3, r, 2), reading))
                    self.yes(changed(book, (2, f, 3, r, 2), ("when", ONE, ("times", reading, reading), reading)))

    def test_formulas_of_fifteen_tuples(self):
        self.yes(changed(ROW_BOOK, (2, 0, 3, 0, 2), chain(15, "times", own("from"))))
        self.yes(changed(LEVEL_BOOK, (2, 0, 3, 0, 2), chain(15, "plus", part(0, "long"))))

    def test_rules_that_go_round_are_no_fault(self):
        self.yes(changed(ROW_BOOK, (2, 0, 3, 0, 2), own("to")))

    def test_a_sort_without_forms_is_no_fault(self):
        self.yes((2, (("a", (), ()), ("b", ("x",), ("y",))), (("f", "a", ("b",), ((0, "x", part(0, "y")),)),)))


class BookCase(unittest.TestCase):

    def told(self, thing, fault):
        self.assertEqual(why_no_book(thing), fault)
        with self.assertRaises(NoBook) as caught:
            need_book(thing)
        self.assertEqual(caught.exception.fault, fault)


class ShapeTest(BookCase):

    def test_of_anything(self):
        for thing in ODD_THINGS + DEEP_THINGS:
            self.told(thing, "shape")

    def test_anything_in_the_place_of_anything(self):
        for book in (LEVEL_BOOK, ROW_BOOK):
            for path in ((0,), (1,), (2,), (1, 0), (2, 1), (1, 0, 0), (1, 0, 1), (1, 0, 2), (2, 1, 0), (2, 1, 1),
                         (2, 1, 2), (2, 1, 3), (2, 1, 3, 0), (2, 1, 2, 0)):
                for thing in DEEP_THINGS[:8] + [None, True, {}, [], [1] * 9000, 10 ** 5000, "X"]:
                    self.told(changed(book, path, thing), "shape")

    def test_lists_and_dicts_in_the_place_of_tuples(self):
        for book in (LEVEL_BOOK, ROW_BOOK):
            for path in paths_of(book):
                thing = found_at(book, path)
                within_formula = len(path) > 4 and path[0] == 2 and path[2] == 3 and path[4] == 2
                if isinstance(thing, tuple) and not within_formula:
                    with self.subTest(path=path):
                        self.told(changed(book, path, list(thing)), "shape")
                        self.told(changed(book, path, {}), "shape")
                        self.told(changed(book, path, None), "shape")

    def test_too_few_and_too_many_in_each_tuple(self):
        for path in ((), (1, 0), (2, 0), (2, 0, 3, 0)):
            thing = found_at(LEVEL_BOOK, path)
            for other in (thing[:-1], thing[1:], thing[:1], (), thing + ((),), thing + (None,), thing + thing[-1:]):
                with self.subTest(path=path, other=other):
                    self.told(changed(LEVEL_BOOK, path, other), "shape")

    def test_wheels(self):
        for wheel in (1, -1, -2, 10 ** 30 + 1, 10 ** 31, -10 ** 30, 10 ** 5000):
            self.told(changed(LEVEL_BOOK, (0,), wheel), "shape")
            self.told(changed(ROW_BOOK, (0,), wheel), "shape")
        for thing in NO_WHOLE_NUMBERS:
            self.told(changed(LEVEL_BOOK, (0,), thing), "shape")

    def test_no_sorts_and_five(self):
        sorts = tuple((name, (), ()) for name in "abcde")
        self.told((0, (), LEAST_BOOK[2]), "shape")
        self.told((0, sorts, LEAST_BOOK[2]), "shape")

    def test_no_forms_and_eleven(self):
        forms = tuple((name, "a", (), ()) for name in "abcdefghijk")
        self.told((0, LEAST_BOOK[1], ()), "shape")
        self.told((0, LEAST_BOOK[1], forms), "shape")

    def test_four_downs_ups_or_parts(self):
        four = ("w", "x", "y", "z")
        self.told(changed(LEAST_BOOK, (1, 0, 1), four), "shape")
        self.told(changed(LEAST_BOOK, (1, 0, 2), four), "shape")
        self.told(changed(LEAST_BOOK, (2, 0, 2), ("a",) * 4), "shape")

    def test_words_that_are_none(self):
        paths = [path for path in paths_of(ROW_BOOK) if isinstance(found_at(ROW_BOOK, path), str)]
        paths = [path for path in paths if len(path) < 6]
        for path in ((1, 0, 0), (1, 0, 1, 0), (1, 0, 2, 1), (2, 0, 0), (2, 0, 1), (2, 1, 2, 0), (2, 0, 3, 0, 1)):
            self.assertIn(path, paths)
        for path in paths:
            for word in NO_WORDS:
                with self.subTest(path=path, word=word):
                    self.told(changed(ROW_BOOK, path, word), "shape")

    def test_a_text_in_the_place_of_a_row_of_words(self):
        for path in ((1, 0, 1), (1, 0, 2), (2, 0, 2), (2, 0, 3), (1,), (2,)):
            for text in ("", "a", "abc"):
                self.told(changed(LEAST_BOOK, path, text), "shape")

    def test_at_is_a_whole_number(self):
        for thing in NO_WHOLE_NUMBERS + ["up", "-1"]:
            self.told(changed(LEVEL_BOOK, (2, 1, 3, 1, 0), thing), "shape")

    def test_at_may_be_any_whole_number_and_word_any_word(self):
        for at in (-2, 0, 1, 3, 10 ** 5000, -10 ** 5000):
            self.told(changed(LEVEL_BOOK, (2, 1, 3, 1, 0), at), "rules")
        for word in ("long", "x", "abcdefgh", "own"):
            self.told(changed(LEVEL_BOOK, (2, 1, 3, 1, 1), word), "rules")

    def test_there_may_be_any_number_of_rules(self):
        self.told(changed(LEAST_BOOK, (2, 0, 3), ((-1, "x", ONE),) * 1500), "rules")

    def test_the_formula_may_be_anything(self):
        for thing in ODD_THINGS + DEEP_THINGS:
            if thing != ONE:
                self.told(changed(LEVEL_BOOK, (2, 1, 3, 1, 2), thing), "formula")
                self.told(changed(changed(LEVEL_BOOK, (2, 1, 3, 1, 2), thing), (2, 1, 3, 0, 0), 7), "rules")


class NamesTest(BookCase):

    def test_two_sorts_of_one_name(self):
        self.told((0, (("a", (), ()), ("a", (), ())), LEAST_BOOK[2]), "names")
        self.told((0, (("a", (), ()), ("b", (), ()), ("c", (), ("x",)), ("b", (), ())), LEAST_BOOK[2]), "names")

    def test_two_forms_of_one_name(self):
        for one, other in itertools.permutations(range(4), 2):
            self.told(changed(LEVEL_BOOK, (2, one, 0), LEVEL_BOOK[2][other][0]), "names")

    def test_two_worths_of_a_sort_of_one_name(self):
        for downs, ups in (
            (("x", "x"), ()), ((), ("x", "x")), (("x",), ("x",)), (("y", "x", "y"), ()), ((), ("x", "y", "y")),
            (("x", "y", "z"), ("u", "v", "z")), (("x", "y", "z"), ("x", "v", "w")),
        ):
            sorts = (("a", (), ()), ("b", downs, ups))
            self.told((2, sorts, LEAST_BOOK[2]), "names")
            self.told((0, sorts[::-1], LEAST_BOOK[2]), "names")

    def test_a_forms_sort_or_part_is_no_sorts_name(self):
        for name in ("b", "f", "aa", "own"):
            self.told(changed(LEAST_BOOK, (2, 0, 1), name), "names")
            for parts in ((name,), ("a", name), ("a", "a", name), (name, "a", "a")):
                self.told(changed(LEAST_BOOK, (2, 0, 2), parts), "names")

    def test_in_the_last_of_ten_forms(self):
        book = full_book()
        self.told(changed(book, (2, 9, 0), "f"), "names")
        self.told(changed(book, (2, 9, 1), "e"), "names")
        self.told(changed(book, (2, 9, 2, 1), "e"), "names")


class RulesTest(BookCase):

    def test_missing_more_or_turned_about(self):
        for book in (LEVEL_BOOK, ROW_BOOK, full_book()):
            for f, form in enumerate(book[2]):
                rules = form[3]
                others = [rules + ((-1, "nowhere", ONE),), ((0, "nowhere", ONE),) + rules]
                for r in range(len(rules)):
                    others += [rules[:r] + rules[r + 1:], rules[:r + 1] + rules[r:], rules + rules[r:r + 1]]
                    if r > 0:
                        others.append(rules[:r - 1] + (rules[r], rules[r - 1]) + rules[r + 1:])
                if len(rules) > 1:
                    others += [rules[::-1], ()]
                for other in others:
                    with self.subTest(form=form[0], other=other):
                        self.told(changed(book, (2, f, 3), other), "rules")

    def test_at_another_place_or_of_another_word(self):
        for book in (LEVEL_BOOK, ROW_BOOK, full_book()):
            for f, form in enumerate(book[2]):
                for r, rule in enumerate(form[3]):
                    for at in (-2, -1, 0, 1, 2, 3):
                        if at != rule[0]:
                            self.told(changed(book, (2, f, 3, r, 0), at), "rules")
                    self.told(changed(book, (2, f, 3, r, 1), "nowhere"), "rules")

    def test_rules_for_own_downs_and_parts_ups_are_none(self):
        rules = ROW_BOOK[2][1][3]
        for key in ((-1, "from"), (0, "val"), (1, "to"), (1, "sum"), (2, "from")):
            self.told(changed(ROW_BOOK, (2, 1, 3), rules + (key + (ONE,),)), "rules")

    def test_the_sorts_order_counts(self):
        self.told(changed(ROW_BOOK, (1, 0, 1), ("step", "from")), "rules")
        self.told(changed(ROW_BOOK, (1, 0, 2), ("sum", "to")), "rules")


class FormulaTest(BookCase):

    def spoilt(self, book, f, r, formula):
        self.told(changed(book, (2, f, 3, r, 2), formula), "formula")

    def test_no_formulas(self):
        for formula in (
            None, 0, 1, True, "1", "own.x", (), [], {}, ["num", 1], ("num", True), ("num", 1000000), ("num",),
            ("plus", ONE), ("plus", ONE, ["num", 1]), ("part", 3, "size"), ("part", -1, "size"), ("part", True, "size"),
            ("own", "Size"), ("sum", ONE, ONE),
        ):
            self.spoilt(LEVEL_BOOK, 1, 0, formula)
            self.spoilt(ROW_BOOK, 1, 4, formula)
            self.spoilt(full_book(), 9 - 1, 0, formula)

    def test_sixteen_tuples(self):
        for size in (16, 17, 399, 400):
            self.spoilt(ROW_BOOK, 0, 0, chain(size))
            self.spoilt(ROW_BOOK, 0, 0, chain(size, "plus", own("from")))

    def test_readings_that_point_9_does_not_tell(self):
        words = sorted(set(word for name, downs, ups in FULL_SORTS for word in downs + ups)) + ["nowhere"]
        book = full_book()
        for f, form in enumerate(book[2]):
            every = [own(word) for word in words] + [part(k, word) for k in range(3) for word in words]
            told = readable(book, form)
            for reading in every:
                if reading not in told and form[3]:
                    last = len(form[3]) - 1
                    self.spoilt(book, f, 0, reading)
                    self.spoilt(book, f, last, ("plus", ONE, reading))
                    self.spoilt(book, f, last, ("when", ONE, ("least", ONE, reading), ONE))
                    self.spoilt(book, f, last, ("when", ONE, ONE, ("times", reading, ONE)))

    def test_a_worth_of_the_other_sort(self):
        self.spoilt(LEVEL_BOOK, 1, 0, part(0, "long"))
        self.spoilt(LEVEL_BOOK, 0, 0, part(0, "size"))
        self.spoilt(LEVEL_BOOK, 2, 0, own("size"))
        self.spoilt(ROW_BOOK, 1, 0, part(0, "to"))
        self.spoilt(ROW_BOOK, 1, 0, part(1, "at"))
        self.spoilt(ROW_BOOK, 1, 0, own("val"))

    def test_a_part_that_the_form_has_not(self):
        self.spoilt(ROW_BOOK, 1, 0, part(2, "to"))
        self.spoilt(ROW_BOOK, 0, 0, part(0, "to"))
        self.spoilt(LEVEL_BOOK, 0, 1, part(1, "long"))


class LevelTest(BookCase):
    a, b = part(0, "size"), part(1, "size")
    deep_a = part(0, "deep")

    def level(self, formula):
        self.assertIsNone(why_no_book(changed(LEVEL_BOOK, (2, 1, 3, 0, 2), formula)))

    def uneven(self, formula):
        book = changed(LEVEL_BOOK, (2, 1, 3, 0, 2), formula)
        self.told(book, "wheel")
        for wheel in (2, 10 ** 30):
            self.assertIsNone(why_no_book(changed(book, (0,), wheel)))

    def test_downs(self):
        for downs in (("x",), ("x", "y", "z")):
            book = (0, (("a", (), ()), ("b", downs, ())), LEAST_BOOK[2])
            self.told(book, "wheel")
            self.told((0, book[1][::-1], book[2]), "wheel")
            self.assertIsNone(why_no_book((2,) + book[1:]))
        self.told((0,) + ROW_BOOK[1:], "wheel")

    def test_own_in_any_place(self):
        reading = own("deep")
        self.uneven(reading)
        for kind in KINDS_OF_TWO:
            self.uneven((kind, reading, ONE))
            self.uneven((kind, ONE, reading))
        for at in range(3):
            self.uneven(("when",) + (ONE,) * at + (reading,) + (ONE,) * (2 - at))
        self.uneven(within(6, reading, lambda inner: ("plus", ONE, inner)))

    def test_own_in_the_last_form(self):
        self.told(changed(LEVEL_BOOK, (2, 3, 3, 0, 2), own("long")), "wheel")

    def test_products_that_read_one_part_on_both_sides(self):
        for left, right in ((self.a, self.a), (self.a, self.deep_a), (self.deep_a, self.a), (self.b, self.b)):
            product = ("times", left, right)
            self.uneven(product)
            self.uneven(("times", ("plus", left, ONE), right))
            self.uneven(("times", left, ("less", ONE, right)))
            self.uneven(("times", ("times", left, ONE), ("times", ONE, right)))
            for kind in KINDS_OF_TWO:
                self.uneven((kind, product, ONE))
                self.uneven((kind, ONE, product))
                self.uneven(("times", (kind, left, ONE), (kind, ONE, right)))
            for at in range(3):
                self.uneven(("when",) + (ONE,) * at + (product,) + (ONE,) * (2 - at))
                deep = ("when",) + (ONE,) * at + (left,) + (ONE,) * (2 - at)
                self.uneven(("times", deep, right))
                self.uneven(("times", right, deep))
            self.uneven(("least", ONE, ("most", ("when", ONE, ONE, product), ONE)))

    def test_one_part_among_several_is_enough(self):
        self.uneven(("times", ("plus", self.a, self.b), self.b))
        self.uneven(("times", self.b, ("plus", self.a, self.b)))
        self.uneven(("times", self.b, ("times", self.a, self.b)))
        self.uneven(("plus", ("times", self.a, self.b), ("times", self.a, self.a)))

    def test_products_that_read_unlike_parts(self):
        a, b = self.a, self.b
        self.level(("times", a, b))
        self.level(("times", b, a))
        self.level(("times", ONE, ONE))
        self.level(("times", a, ONE))
        self.level(("times", ("plus", a, self.deep_a), ("most", b, b)))
        self.level(("plus", ("times", a, b), ("times", a, b)))
        self.level(("when", a, ("times", a, b), ("times", ("less", b, b), a)))
        self.level(("times", ("when", a, ONE, a), ("least", b, ONE)))

    def test_other_kinds_may_read_one_part_on_both_sides(self):
        for kind in KINDS_OF_TWO:
            if kind != "times":
                self.level((kind, self.a, self.a))
        self.level(("when", self.a, self.a, self.a))

    def test_three_parts(self):
        sorts = (("a", (), ("x",)),)
        heads = (("f", "a", ("a", "a", "a")), ("g", "a", ()))
        x, y, z = [part(k, "x") for k in range(3)]
        for formula, fault in (
            (("times", x, ("times", y, z)), None), (("times", ("times", x, y), z), None),
            (("times", ("times", x, y), x), "wheel"), (("times", z, ("times", y, z)), "wheel"),
        ):
            book = book_with(0, sorts, heads, lambda bare, form, key: formula if form[2] else ONE)
            self.assertEqual(why_no_book(book), fault)


class FirstFaultTest(BookCase):

    def test_of_several_the_first_one_that_is_due(self):
        spoil = {
            "shape": lambda book: changed(book, (1, 1, 0), "Word"),
            "names": lambda book: changed(book, (2, 3, 0), "ab"),
            "rules": lambda book: changed(book, (2, 2, 3, 0, 0), 0),
            "formula": lambda book: changed(book, (2, 0, 3, 0, 2), part(1, "long")),
            "wheel": lambda book: changed(book, (2, 1, 3, 0, 2), ("times", part(0, "size"), part(0, "size"))),
        }
        self.assertEqual(list(spoil), FAULTS)
        for many in range(1, 6):
            for faults in itertools.combinations(FAULTS, many):
                book = LEVEL_BOOK
                for fault in faults:
                    book = spoil[fault](book)
                with self.subTest(faults=faults):
                    self.told(book, faults[0])

    def test_whichever_form_it_stands_in(self):
        book = changed(LEVEL_BOOK, (2, 0, 3, 0, 2), None)
        self.told(changed(book, (2, 3, 3), ()), "rules")
        self.told(changed(book, (2, 3, 1), "other"), "names")
        self.told(changed(book, (2, 3, 2), ["word"]), "shape")
        rules = changed(LEVEL_BOOK, (2, 3, 3, 0, 2), None)
        self.told(changed(rules, (2, 0, 3), ()), "rules")
        wheel = changed(LEVEL_BOOK, (2, 0, 3, 0, 2), own("size"))
        self.told(changed(wheel, (2, 3, 3, 0, 2), own("size")), "formula")

    def test_readings_go_ahead_of_the_wheel(self):
        self.told(changed(LEVEL_BOOK, (2, 1, 3, 0, 2), own("nowhere")), "formula")
        self.told(changed(LEVEL_BOOK, (2, 1, 3, 0, 2), ("times", part(2, "size"), part(2, "size"))), "formula")


class NeedBookTest(unittest.TestCase):

    def test_the_refusal_is_taken_by_wider_names(self):
        for wider in (NoBook, BoughError, ValueError):
            with self.assertRaises(wider):
                need_book(None)

    def test_nothing_is_changed(self):
        inner = [["num", 1], {"a": [1]}]
        thing = changed(LEVEL_BOOK, (2, 0, 3, 0, 2), inner)
        self.assertEqual(why_no_book(thing), "formula")
        self.assertEqual(inner, [["num", 1], {"a": [1]}])
        rows = [0, [["a", [], []]], [["f", "a", [], []]]]
        self.assertEqual(why_no_book(rows), "shape")
        self.assertEqual(rows, [0, [["a", [], []]], [["f", "a", [], []]]])


class RuleAtTest(unittest.TestCase):

    def test_each_rule_of_each_form(self):
        for book in (LEVEL_BOOK, ROW_BOOK, full_book()):
            for form in book[2]:
                self.assertEqual([rule[:2] for rule in form[3]], due_keys(book, form))
                for at, word, formula in form[3]:
                    self.assertEqual(rule_at(book, form[0], at, word), formula)

    def test_ups_and_downs(self):
        self.assertEqual(rule_at(ROW_BOOK, "some", -1, "to"), part(1, "to"))
        self.assertEqual(rule_at(ROW_BOOK, "some", 0, "at"), own("from"))
        self.assertEqual(rule_at(ROW_BOOK, "some", 1, "from"), ("plus", part(0, "at"), part(1, "step")))
        self.assertEqual(rule_at(ROW_BOOK, "some", 1, "step"), own("step"))
        self.assertEqual(rule_at(ROW_BOOK, "none", -1, "to"), own("from"))

    def test_the_same_word_at_several_places(self):
        sorts = (("a", ("x",), ("y",)), ("b", ("y",), ("x",)))
        heads = (("f", "b", ("a", "b", "a")), ("g", "b", ("a", "b", "a")))
        book = book_with(2, sorts, heads, lambda bare, form, key: ("num", 10 * key[0] + len(form[0] + key[1])))
        numbers = {(at, word): ("num", 10 * at + 2) for at, word in ((-1, "x"), (0, "x"), (1, "y"), (2, "x"))}
        for key, formula in numbers.items():
            self.assertEqual(rule_at(book, "f", key[0], key[1]), formula)

    def test_forms_of_many_rules(self):
        rules = form_of("f")[3]
        self.assertEqual(len(rules), 12)
        self.assertEqual([rule_at(full_book(), "f", at, word) for at, word, formula in rules],
                         [formula for at, word, formula in rules])
        self.assertEqual(len(FULL_HEADS), 10)

    def test_books_made_straight(self):
        book = changed(ROW_BOOK, (2, 0, 3, 0, 2), chain(400, "plus", own("from")))
        self.assertEqual(rule_at(book, "none", -1, "to"), chain(400, "plus", own("from")))


if __name__ == "__main__":
    unittest.main()
