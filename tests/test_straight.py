"""Point 11: books that are straight or not, and books made straight."""

import random
import unittest

from boughworth.books import rule_at, why_no_book
from boughworth.errors import BoughError, Tangled, TooGreat
from boughworth.formulas import readings_of, size_of
from boughworth.formulatexts import read_formula, show_formula
from boughworth.straight import is_straight, made_straight
from boughworth.trees import bough_at, is_tree, places_of, put_at, sort_of
from example_books import (
    FULL_HEADS, FULL_SORTS, LEVEL_BOOK, ROW_BOOK, all_spots, book_with, changed, due_keys, full_book, own, part,
    readable, sum_of, worth,
)
from examples import KINDS_OF_TWO, ONE, chain, within

SORTS = (("a", ("p", "q", "r"), ("x", "y", "z")), ("b", ("p", "q", "r"), ("x",)), ("c", (), ("x",)))
HEAD = ("f", "a", ("b", "a", "c"))


def one_form(told, wheel=7, head=HEAD):
    """A book of one form; told is a dict from keys to formulas, all other rules are numbers."""
    return book_with(wheel, SORTS, (head,), lambda bare, form, key: told.get(key, ("num", 5)))


def several_forms(told_by_form, wheel=7):
    heads = tuple((name,) + HEAD[1:] for name in told_by_form)
    return book_with(wheel, SORTS, heads, lambda bare, form, key: told_by_form[form[0]].get(key, ("num", 5)))


def reading_of(key):
    return own(key[1]) if key[0] == -1 else part(key[0], key[1])


def read_rule(rules, reading):
    """The key of the form's own rule for what is read, or None."""
    key = (-1, reading[1]) if reading[0] == "own" else reading[1:]
    return key if key in rules else None


def goes_round(rules, key, above=()):
    if key in above:
        return True
    read = [read_rule(rules, reading) for reading in readings_of(rules[key])]
    return any(goes_round(rules, other, above + (key,)) for other in read if other)


def size_made(rules, formula):
    if formula[0] in ("own", "part"):
        key = read_rule(rules, formula)
        return size_made(rules, rules[key]) if key else 1
    return 1 + sum(size_made(rules, inner) for inner in formula[1:] if isinstance(inner, tuple))


def put_so(rules, formula):
    if formula[0] in ("own", "part"):
        key = read_rule(rules, formula)
        return put_so(rules, rules[key]) if key else formula
    return tuple(put_so(rules, inner) if isinstance(inner, tuple) else inner for inner in formula)


def by_the_words(book):
    """Point 11 word by word: a book, or the refusal's name and field."""
    all_rules = [{rule[:2]: rule[2] for rule in form[3]} for form in book[2]]
    for form, rules in zip(book[2], all_rules):
        if any(goes_round(rules, key) for key in rules):
            return ("Tangled", form[0])
    if any(size_made(rules, rules[key]) > 400 for rules in all_rules for key in rules):
        return ("TooGreat", None)
    forms = []
    for form, rules in zip(book[2], all_rules):
        forms.append(form[:3] + (tuple(key + (put_so(rules, rules[key]),) for key in rules),))
    return book[:2] + (tuple(forms),)


def told_of(book):
    try:
        return made_straight(book)
    except Tangled as refusal:
        return ("Tangled", refusal.form)
    except TooGreat:
        return ("TooGreat", None)


def random_formula(chance, leaves, size):
    """Of at most so many tuples."""
    if size < 3:
        return chance.choice(leaves)
    head = (chance.choice(KINDS_OF_TWO),)
    if size > 3 and chance.random() < 0.2:
        head = ("when", chance.choice(leaves))
    left = chance.randrange(1, size - len(head))
    right = size - len(head) - left
    return head + (random_formula(chance, leaves, left), random_formula(chance, leaves, right))


def random_book(seed):
    """Some go round, some come to many tuples: a rule mostly reads those behind it alone."""
    chance = random.Random(seed)
    tangle = chance.choice((0, 0, 0, 0.03))
    size = chance.choice((1, 3, 5, 9, 11, 12, 15))

    def formula_for(bare, form, key):
        keys = due_keys(bare, form)
        straight = [one for one in readable(bare, form) if read_rule(dict.fromkeys(keys), one) is None]
        later = keys[keys.index(key) + 1:] if chance.random() >= tangle else keys
        bent = [reading_of(other) for other in later]
        return random_formula(chance, straight + [ONE, ("num", -2)] + bent + bent, size)

    return book_with(10, FULL_SORTS, FULL_HEADS, formula_for)


class IsStraightTest(unittest.TestCase):

    def test_own_downs_and_parts_ups_are_straight(self):
        for reading in (own("p"), own("q"), own("r"), part(0, "x"), part(1, "x"), part(1, "y"), part(1, "z"),
                        part(2, "x")):
            for key in due_keys(one_form({}), one_form({})[2][0]):
                for formula in (reading, ("times", reading, reading), ("when", ONE, reading, reading)):
                    self.assertIs(is_straight(one_form({key: formula})), True)

    def test_own_ups_and_parts_downs_are_not(self):
        readings = [own(word) for word in "xyz"] + [part(k, word) for k in (0, 1) for word in "pqr"]
        for reading in readings:
            for key in due_keys(one_form({}), one_form({})[2][0]):
                for formula in (
                    reading, ("plus", own("p"), reading), ("times", reading, ONE), ("when", reading, ONE, ONE),
                    ("when", ONE, reading, ONE), ("when", ONE, ONE, reading),
                    within(6, reading, lambda inner: ("most", part(2, "x"), inner)),
                ):
                    self.assertIs(is_straight(one_form({key: formula})), False)

    def test_one_rule_of_one_form_is_enough(self):
        book = full_book()
        bare = book_with(2, FULL_SORTS, FULL_HEADS, lambda bare, form, key: ONE)
        self.assertIs(is_straight(bare), True)
        for f, form in enumerate(book[2]):
            for r, rule in enumerate(form[3]):
                reading = reading_of(rule)
                self.assertIs(is_straight(changed(bare, (2, f, 3, 0, 2), reading)), False)
                self.assertIs(is_straight(changed(bare, (2, f, 3, r, 2), reading)), False)

    def test_the_same_word_may_be_a_down_of_one_sort_and_an_up_of_another(self):
        sorts = (("a", ("x",), ("y",)), ("b", ("y",), ("x",)))
        for reading, straight in (
            (own("x"), True), (own("y"), False), (part(0, "x"), True), (part(0, "y"), False),
            (part(1, "x"), False), (part(1, "y"), True),
        ):
            book = book_with(2, sorts, (("f", "a", ("b", "a")),), lambda bare, form, key: reading)
            self.assertIs(is_straight(book), straight)

    def test_books_without_rules_and_level_books(self):
        self.assertIs(is_straight((0, (("a", (), ()),), (("f", "a", ("a",), ()),))), True)
        self.assertIs(is_straight(LEVEL_BOOK), True)
        self.assertIs(is_straight(ROW_BOOK), False)

    def test_books_that_go_round_or_are_too_great_may_be_asked_of(self):
        self.assertIs(is_straight(one_form({(-1, "x"): own("x")})), False)
        self.assertIs(is_straight(one_form({(0, "p"): part(0, "p")})), False)


class MadeStraightTest(unittest.TestCase):

    def made(self, told, key):
        book = made_straight(one_form(told))
        self.assertIs(is_straight(book), True)
        return rule_at(book, "f", key[0], key[1])

    def test_an_own_up(self):
        self.assertEqual(self.made({(-1, "x"): own("y"), (-1, "y"): own("p")}, (-1, "x")), own("p"))
        self.assertEqual(self.made({(-1, "y"): own("x"), (-1, "x"): own("p")}, (-1, "y")), own("p"))
        self.assertEqual(self.made({(0, "q"): own("z"), (-1, "z"): part(0, "x")}, (0, "q")), part(0, "x"))
        self.assertEqual(self.made({(0, "q"): own("z")}, (0, "q")), ("num", 5))

    def test_a_parts_down(self):
        self.assertEqual(self.made({(-1, "x"): part(0, "p"), (0, "p"): own("q")}, (-1, "x")), own("q"))
        self.assertEqual(self.made({(0, "r"): part(1, "p"), (1, "p"): part(0, "x")}, (0, "r")), part(0, "x"))
        self.assertEqual(self.made({(1, "r"): part(0, "r"), (0, "r"): own("r")}, (1, "r")), own("r"))

    def test_row_book(self):
        made = made_straight(ROW_BOOK)
        self.assertEqual(made, changed(ROW_BOOK, (2, 1, 3, 3, 2), ("plus", own("from"), own("step"))))
        self.assertEqual(rule_at(made, "some", 1, "from"), ("plus", own("from"), own("step")))

    def test_through_several_rules(self):
        told = {
            (-1, "x"): ("plus", own("y"), ONE), (-1, "y"): ("times", part(1, "p"), own("z")),
            (-1, "z"): ("less", own("p"), part(0, "q")), (0, "q"): part(1, "r"),
            (1, "p"): ("most", part(0, "q"), part(1, "x")), (1, "r"): ("when", own("q"), ONE, part(2, "x")),
        }
        r = ("when", own("q"), ONE, part(2, "x"))
        p = ("most", r, part(1, "x"))
        z = ("less", own("p"), r)
        y = ("times", p, z)
        for key, formula in (
            ((-1, "x"), ("plus", y, ONE)), ((-1, "y"), y), ((-1, "z"), z), ((0, "q"), r), ((1, "p"), p), ((1, "r"), r),
            ((0, "p"), ("num", 5)),
        ):
            self.assertEqual(self.made(told, key), formula)

    def test_a_formula_that_stands_there_several_times(self):
        told = {(-1, "x"): ("times", own("y"), own("y")), (-1, "y"): ("plus", own("z"), own("z")),
                (-1, "z"): ("less", own("p"), part(0, "x"))}
        z = ("less", own("p"), part(0, "x"))
        y = ("plus", z, z)
        self.assertEqual(self.made(told, (-1, "x")), ("times", y, y))

    def test_all_places_of_each_kind(self):
        y = ("plus", own("p"), ONE)
        for kind in KINDS_OF_TWO:
            told = {(-1, "x"): (kind, own("y"), part(0, "p")), (-1, "y"): y, (0, "p"): own("r")}
            self.assertEqual(self.made(told, (-1, "x")), (kind, y, own("r")))
        told = {(-1, "x"): ("when", own("y"), own("q"), own("y")), (-1, "y"): y}
        self.assertEqual(self.made(told, (-1, "x")), ("when", y, own("q"), y))

    def test_sorts_forms_and_wheel_stay(self):
        for seed in range(40):
            book = random_book(seed)
            made = told_of(book)
            if len(made) == 3:
                self.assertEqual(made[:2], book[:2])
                self.assertEqual([form[:3] for form in made[2]], [form[:3] for form in book[2]])
                self.assertEqual([[rule[:2] for rule in form[3]] for form in made[2]],
                                 [[rule[:2] for rule in form[3]] for form in book[2]])
        for wheel in (2, 10 ** 30):
            self.assertEqual(made_straight(one_form({(-1, "x"): own("y")}, wheel))[0], wheel)

    def test_what_was_straight_stays_as_it_was(self):
        straight = one_form({(-1, "x"): chain(15, "times", own("p")), (0, "q"): ("when", ONE, part(1, "x"), own("r"))})
        for book in (LEVEL_BOOK, straight, (0, (("a", (), ()),), (("f", "a", ("a",), ()),))):
            self.assertEqual(made_straight(book), book)

    def test_made_straight_again_it_stays(self):
        for seed in range(60):
            made = told_of(random_book(seed))
            if len(made) == 3:
                self.assertIs(is_straight(made), True)
                self.assertEqual(made_straight(made), made)

    def test_the_book_handed_in_stays(self):
        for seed in range(20):
            book = random_book(seed)
            told_of(book)
            self.assertEqual(book, random_book(seed))
        made_straight(ROW_BOOK)
        self.assertEqual(rule_at(ROW_BOOK, "some", 1, "from"), ("plus", part(0, "at"), part(1, "step")))

    def test_as_the_words_of_point_11_tell(self):
        seen = {"Tangled": 0, "TooGreat": 0, "made": 0}
        for seed in range(150):
            book = random_book(seed)
            self.assertIsNone(why_no_book(book))
            due = by_the_words(book)
            self.assertEqual(told_of(book), due)
            seen[due[0] if len(due) == 2 else "made"] += 1
        for many in seen.values():
            self.assertGreater(many, 9, seen)


class TangledTest(unittest.TestCase):

    def tangled(self, book, form="f"):
        for wider in (Tangled, BoughError, ValueError):
            with self.assertRaises(wider) as caught:
                made_straight(book)
            self.assertEqual(caught.exception.form, form)

    def test_round_in_one_rule(self):
        for word in "xyz":
            self.tangled(one_form({(-1, word): own(word)}))
            self.tangled(one_form({(-1, word): ("when", ONE, ONE, ("times", ("num", 0), own(word)))}))
        for k in (0, 1):
            for word in "pqr":
                self.tangled(one_form({(k, word): part(k, word)}))

    def test_round_in_several_rules(self):
        self.tangled(one_form({(-1, "x"): own("y"), (-1, "y"): own("x")}))
        self.tangled(one_form({(-1, "x"): part(0, "p"), (0, "p"): own("x")}))
        self.tangled(one_form({(0, "p"): part(1, "p"), (1, "p"): part(0, "p")}))
        self.tangled(one_form({(-1, "z"): own("x"), (-1, "x"): part(1, "r"), (1, "r"): part(0, "q"), (0, "q"): own("z")}))

    def test_round_in_all_twelve_rules(self):
        sorts = (("a", ("p", "q", "r"), ("x", "y", "z")),)
        head = ("f", "a", ("a", "a", "a"))
        keys = [(-1, word) for word in "xyz"] + [(k, word) for k in range(3) for word in "pqr"]
        following = dict(zip(keys, keys[1:] + keys[:1]))

        def formula_for(bare, form, key):
            return reading_of(following[key])

        self.tangled(book_with(2, sorts, (head,), formula_for))

    def test_a_rule_that_only_comes_to_a_round_is_tangled_with_it(self):
        self.tangled(one_form({(-1, "x"): own("y"), (-1, "y"): own("y")}))
        self.tangled(one_form({(0, "p"): own("z"), (-1, "z"): part(1, "q"), (1, "q"): own("z")}))

    def test_what_is_put_nowhere_goes_not_round(self):
        for told in (
            {(0, "p"): part(0, "x"), (1, "p"): part(1, "x")}, {(-1, "x"): part(1, "x"), (1, "p"): own("x")},
            {(-1, "x"): own("p"), (1, "p"): own("x")}, {(1, "p"): own("p")},
            {(-1, "x"): ("plus", own("y"), own("z")), (-1, "y"): own("z"), (-1, "z"): part(0, "p")},
        ):
            self.assertIs(is_straight(made_straight(one_form(told))), True)

    def test_the_first_such_form_is_told(self):
        good, bad = {(-1, "x"): own("y")}, {(-1, "x"): own("x")}
        self.tangled(several_forms({"f": good, "g": bad}), "g")
        self.tangled(several_forms({"f": bad, "g": good}), "f")
        self.tangled(several_forms({"z": good, "y": bad, "x": bad}), "y")
        self.tangled(several_forms({"z": bad, "a": bad}), "z")
        self.tangled(several_forms({"a": good, "b": {(0, "p"): part(0, "p")}, "c": bad}), "b")
        ten = {name: good for name in "abcdefghi"}
        ten["j"] = bad
        self.tangled(several_forms(ten), "j")

    def test_one_forms_rules_do_not_tangle_anothers(self):
        book = several_forms({"f": {(-1, "x"): own("y")}, "g": {(-1, "y"): own("x")}})
        self.assertIs(is_straight(made_straight(book)), True)


# Of 9 tuples, of 55 made straight, and of 400 and 401: one tuple for each sum, and those that are summed.
NINE = {(-1, "z"): chain(9, "plus", own("p"))}
FIFTY_FIVE = {**NINE, (-1, "y"): sum_of([own("z")] * 5 + [own("p")] * 3)}
JUST_401 = {**FIFTY_FIVE, (-1, "x"): sum_of([own("y")] * 7 + [own("z")])}
JUST_400 = {
    (-1, "z"): chain(15, "plus", own("p")),
    (-1, "y"): ("when", own("z"), own("z"), sum_of([own("z")] + [ONE] * 5)),
    (-1, "x"): sum_of([own("y")] * 7 + [ONE]),
}
KEYS = [(-1, word) for word in "xyz"] + [(k, word) for k in (0, 1) for word in "pqr"]
# Each of nine rules reads the next one eight times.
VERY_MANY = {key: chain(15, "times", reading_of(other)) for key, other in zip(KEYS, KEYS[1:])}


class TooGreatTest(unittest.TestCase):

    def too_great(self, book):
        for wider in (TooGreat, BoughError, ValueError):
            with self.assertRaises(wider):
                made_straight(book)

    def test_just_four_hundred_tuples(self):
        for told in (JUST_400, {**JUST_400, (1, "p"): own("x")}):
            self.assertIsNone(why_no_book(one_form(told)))
            book = made_straight(one_form(told))
            self.assertEqual(size_of(rule_at(book, "f", -1, "x")), 400)
            self.assertEqual(made_straight(book), book)

    def test_four_hundred_and_one(self):
        self.assertIsNone(why_no_book(one_form(JUST_401)))
        self.assertEqual(size_of(rule_at(made_straight(one_form(FIFTY_FIVE)), "f", -1, "y")), 55)
        self.too_great(one_form(JUST_401))
        self.too_great(one_form({**JUST_400, (0, "p"): ("plus", own("x"), ONE)}))

    def test_in_any_form(self):
        for names in ("fgh", "hgf"):
            for which in names:
                told = {name: {} for name in names}
                told[which] = JUST_401
                self.too_great(several_forms(told))

    def test_each_formula_by_itself_may_have_four_hundred(self):
        book = several_forms({name: JUST_400 for name in "abcdefghij"})
        self.assertEqual([size_of(form[3][0][2]) for form in made_straight(book)[2]], [400] * 10)

    def test_tangled_goes_ahead_in_whichever_order_the_forms_stand(self):
        for great in (JUST_401, VERY_MANY):
            for told in (
                {"f": great, "g": {(-1, "x"): own("x")}}, {"g": {(-1, "x"): own("x")}, "f": great},
                {"f": great, "g": {(1, "r"): part(1, "r")}, "h": great},
            ):
                with self.assertRaises(Tangled) as caught:
                    made_straight(several_forms(told))
                self.assertEqual(caught.exception.form, "g")
        with self.assertRaises(Tangled):
            made_straight(one_form({**JUST_401, (1, "r"): part(1, "r")}))

    def test_very_many_tuples_are_refused_at_once(self):
        self.assertEqual(len(VERY_MANY), 8)
        self.assertIsNone(why_no_book(one_form(VERY_MANY)))
        self.too_great(one_form(VERY_MANY))
        self.too_great(several_forms({name: VERY_MANY for name in "abcdefghij"}))

    def test_twelve_rules_that_read_one_another_eight_times(self):
        sorts = (("a", ("p", "q", "r"), ("x", "y", "z")),)
        head = ("f", "a", ("a", "a", "a"))
        keys = [(-1, word) for word in "xyz"] + [(k, word) for k in range(3) for word in "pqr"]
        for row in (keys, keys[::-1]):
            following = dict(zip(row, row[1:] + [None]))

            def formula_for(bare, form, key):
                return chain(15, "plus", reading_of(following[key])) if following[key] else ONE

            self.too_great(book_with(2, sorts, (head,), formula_for))


class HandedOnTest(unittest.TestCase):
    """Books made straight, of up to 400 tuples a formula, two hundred within one another."""

    sorts = (("a", ("p", "q", "r"), ("x", "y", "z")),)
    keys = [(-1, word) for word in "xyz"] + [(k, word) for k in range(3) for word in "pqr"]

    def deep_book(self):
        """Each rule of the form f reads the next one, once, as deep within as can be."""
        following = dict(zip(self.keys, self.keys[1:] + [None]))

        def formula_for(bare, form, key):
            other = following[key] if form[2] else None
            return sum_of([reading_of(other) if other else own("p")] + [own("p")] * 7)

        heads = (("f", "a", ("a", "a", "a")), ("g", "a", ()))
        return book_with(1000, self.sorts, heads, formula_for)

    def test_they_may_be_handed_on(self):
        made = made_straight(self.deep_book())
        formula = rule_at(made, "f", -1, "x")
        self.assertEqual(size_of(formula), 15 + 11 * 14)
        self.assertEqual(formula, chain(169, "plus", own("p")))
        self.assertEqual(show_formula(formula), "(" * 84 + "own.p" + " + own.p)" * 84)
        self.assertIs(is_straight(made), True)
        self.assertEqual(made_straight(made), made)
        tree = ("f", (("g", ()), ("f", (("g", ()),) * 3), ("g", ())))
        self.assertIs(is_tree(made, tree), True)
        self.assertEqual(sort_of(made, tree), "a")
        self.assertEqual(len(places_of(tree)), 7)
        self.assertEqual(bough_at(put_at(made, tree, (1, 2), tree), (1, 2)), tree)

    def test_points_7_and_10_say_of_them_what_they_say(self):
        made = made_straight(self.deep_book())
        self.assertEqual(why_no_book(made), "formula")
        with self.assertRaises(ValueError):
            read_formula(show_formula(rule_at(made, "f", -1, "x")))
        self.assertIsNone(why_no_book(made_straight(ROW_BOOK)))

    def test_four_hundred_tuples_two_hundred_within_one_another(self):
        for formula in (chain(399, "plus", own("p")), chain(400, "most", part(0, "x"))):
            book = one_form({(-1, "x"): formula})
            self.assertIs(is_straight(book), True)
            self.assertEqual(made_straight(book), book)
            self.assertEqual(rule_at(book, "f", -1, "x"), formula)
            self.assertEqual(why_no_book(book), "formula")


class SameWorthsTest(unittest.TestCase):

    def alike(self, book, tree, given):
        made = made_straight(book)
        for spot in all_spots(book, tree):
            self.assertEqual(worth(book, tree, given, spot), worth(made, tree, given, spot))

    def test_row_book(self):
        tree = ("none", ())
        for cell in ("same", "squared", "same"):
            tree = ("some", ((cell, ()), tree))
        self.alike(ROW_BOOK, tree, {"from": 3, "step": 4})
        self.assertEqual(worth(ROW_BOOK, tree, {"from": 3, "step": 4}, ((), "sum")), 3 + 7 * 7 + 11)
        self.assertEqual(worth(made_straight(ROW_BOOK), tree, {"from": 3, "step": 4}, ((), "sum")), 3 + 7 * 7 + 11)

    def test_spots_that_hang_on_a_ring_have_no_worth_by_both(self):
        sorts = (("a", ("d",), ("x", "y")),)
        heads = (("f", "a", ("a",)), ("g", "a", ()))
        told = {
            ("f", (-1, "x")): part(0, "x"), ("f", (-1, "y")): ("plus", own("x"), part(0, "d")),
            ("f", (0, "d")): ("plus", part(0, "x"), own("d")),
            ("g", (-1, "x")): own("d"), ("g", (-1, "y")): ("num", 3),
        }
        book = book_with(100, sorts, heads, lambda bare, form, key: told[(form[0], key)])
        tree = ("f", (("f", (("g", ()),)),))
        self.assertIsNone(worth(book, tree, {"d": 5}, ((), "x")))
        self.assertEqual(worth(book, tree, {"d": 5}, ((0, 0), "y")), 3)
        self.alike(book, tree, {"d": 5})


if __name__ == "__main__":
    unittest.main()
