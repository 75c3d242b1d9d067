"""Points 21, 22 and 4: pass tables, the least one, and steps round."""

import copy
import itertools
import random
import unittest

from boughworth.errors import Tangled, TooGreat
from boughworth.passes import holds, is_stuck, passes_of
from boughworth.straight import made_straight
from example_books import LEVEL_BOOK, ROW_BOOK, book_with, full_book, own, part
from example_trees import come_to, fewest_places, paper_looked_at, random_book, readings_in_order
from examples import ONE


def live_by_the_words(book):
    grown = fewest_places(book)
    return [form for form in book[2] if all(one in grown for one in form[2])]


def worth_of(book, form, reading):
    return (form[1], reading[1]) if reading[0] == "own" else (form[2][reading[1]], reading[2])


def told_by(form, rule):
    return (form[1] if rule[0] == -1 else form[2][rule[0]], rule[1])


def ready_by_the_words(book, form, rule, reading):
    """Point 21: what is ready for a rule."""
    downs = {name: one for name, one, ups in book[1]}
    at, word = rule[:2]
    if at == -1:
        return reading != own(word)
    if reading[0] == "own":
        return reading[1] in downs[form[1]]
    if reading[1] == at:
        return reading[2] in downs[form[2][at]] and reading[2] != word
    return reading[1] < at


def goes_round(form):
    """Whether rules with the same at read one another round."""
    reads = {rule[:2]: [] for rule in form[3]}
    for at, word, formula in form[3]:
        for reading in readings_in_order(formula):
            key = (-1, reading[1]) if reading[0] == "own" else reading[1:]
            if key[0] == at and key in reads:
                reads[(at, word)].append(key)
    reached = come_to(reads)
    return any(key in reached[key] for key in reads)


def holds_by_the_words(book, table):
    if set(table) != {(name, word) for name, downs, ups in book[1] for word in downs + ups}:
        return False
    if any(number < 1 for number in table.values()) or any(goes_round(form) for form in live_by_the_words(book)):
        return False
    for form in live_by_the_words(book):
        for rule in form[3]:
            for reading in readings_in_order(rule[2]):
                read, told = table[worth_of(book, form, reading)], table[told_by(form, rule)]
                if read > told or read == told and not ready_by_the_words(book, form, rule, reading):
                    return False
    return True


def stuck_by_the_words(book, steps):
    forms = {form[0]: form for form in live_by_the_words(book)}
    if not steps:
        return False
    late, there = False, True
    for (name, number, reading), following in zip(steps, steps[1:] + steps[:1]):
        if name not in forms or following[0] not in forms:
            return False
        form, other = forms[name], forms[following[0]]
        if not 0 <= number < len(form[3]) or not 0 <= following[1] < len(other[3]):
            return False
        rule, told = form[3][number], other[3][following[1]]
        if reading not in readings_in_order(rule[2]) or worth_of(book, form, reading) != told_by(other, told):
            return False
        late = late or not ready_by_the_words(book, form, rule, reading)
        there = there and name == following[0] and rule[0] == told[0]
        there = there and reading == (own(told[1]) if told[0] == -1 else part(told[0], told[1]))
    return late or there


def all_tables(book, most):
    worths = [(name, word) for name, downs, ups in book[1] for word in downs + ups]
    for numbers in itertools.product(range(1, most + 1), repeat=len(worths)):
        yield dict(zip(worths, numbers))


# One form of two parts, of the sort that it makes; two downs and two ups.
SORTS = (("s", ("d", "e"), ("u", "v")),)
HEADS = (("f", "s", ("s", "s")), ("g", "s", ()))
ATS = [(-1, "u"), (-1, "v"), (0, "d"), (0, "e"), (1, "d"), (1, "e")]
ALL_READINGS = [own(word) for word in "deuv"] + [part(k, word) for k in (0, 1) for word in "deuv"]


def one_rule(key, formula, sorts=SORTS, heads=HEADS):
    """All other rules are numbers."""
    return book_with(9, sorts, heads, lambda bare, form, other: formula if (form[0], other) == ("f", key) else ONE)


def of_rules(told, sorts=SORTS, heads=HEADS, wheel=9):
    return book_with(wheel, sorts, heads, lambda bare, form, key: told.get((form[0], key), ONE))


class HoldsTest(unittest.TestCase):

    def told(self, book, table, due):
        paper_looked_at(self, holds, holds_by_the_words, book, table, due)

    def table(self, **passes):
        return {("s", word): passes.get(word, 1) for word in "deuv"}

    def test_ready_and_late_for_each_rule_and_reading(self):
        """Point 21's list: with all passes 1 a table holds where what is read is ready."""
        ready = {
            (-1, "u"): [one for one in ALL_READINGS if one != own("u")],
            (-1, "v"): [one for one in ALL_READINGS if one != own("v")],
            (0, "d"): [own("d"), own("e"), part(0, "e")],
            (0, "e"): [own("d"), own("e"), part(0, "d")],
            (1, "d"): [own("d"), own("e"), part(1, "e")] + [part(0, word) for word in "deuv"],
            (1, "e"): [own("d"), own("e"), part(1, "d")] + [part(0, word) for word in "deuv"],
        }
        for key in ATS:
            for reading in ALL_READINGS:
                book = one_rule(key, ("plus", ONE, reading))
                self.told(book, self.table(), reading in ready[key])
                word, read = key[1], reading[-1]
                if word == read:
                    continue
                self.told(book, self.table(**{word: 2}), True)
                self.told(book, self.table(**{word: 2, read: 2}), reading in ready[key])
                self.told(book, self.table(**{read: 2}), False)
                self.told(book, self.table(**{word: 40, read: 39}), True)

    def test_the_same_word_of_a_part_ahead_is_ready_and_of_one_behind_late(self):
        for word in "de":
            self.told(one_rule((1, word), part(0, word)), self.table(), True)
            self.told(one_rule((0, word), part(1, word)), self.table(), False)
            self.told(one_rule((0, word), own(word)), self.table(), True)
            self.told(one_rule((0, word), part(0, word)), self.table(), False)
        for word in "uv":
            self.told(one_rule((-1, word), part(1, word)), self.table(), True)
            self.told(one_rule((-1, word), own(word)), self.table(), False)

    def test_a_worth_left_out_or_too_many(self):
        book = one_rule((-1, "u"), own("d"))
        self.told(book, self.table(), True)
        for word in "deuv":
            table = self.table()
            table.pop(("s", word))
            self.told(book, table, False)
        for more in (("s", "x"), ("t", "d"), ("", ""), ("s", ""), ("g", "u"), ("s", "D")):
            self.told(book, {**self.table(), more: 1}, False)
            table = self.table()
            table.pop(("s", "v"))
            self.told(book, {**table, more: 1}, False)
        self.told(book, {}, False)
        self.told(book, {("t", word): 1 for word in "deuv"}, False)

    def test_passes_below_1(self):
        book = one_rule((-1, "u"), own("d"))
        for number in (0, -1, -10 ** 30):
            for word in "deuv":
                self.told(book, self.table(**{word: number}), False)
            self.told(book, {key: number for key in self.table()}, False)
        self.told(book, {key: 10 ** 30 for key in self.table()}, True)

    def test_rules_of_one_at_that_read_one_another_round(self):
        for one, other, passes in (
            ((-1, "u"), (-1, "v"), {}), ((-1, "u"), (-1, "v"), {"u": 2, "v": 2}), ((0, "d"), (0, "e"), {}),
            ((1, "d"), (1, "e"), {"d": 3, "e": 3}), ((1, "d"), (1, "e"), {}),
        ):
            def reading(key):
                return own(key[1]) if key[0] == -1 else part(key[0], key[1])

            book = of_rules({("f", one): ("plus", reading(other), ONE), ("f", other): reading(one)})
            self.told(book, self.table(**passes), False)
            self.told(of_rules({("f", one): reading(other)}), self.table(**passes), True)

    def test_rules_of_different_ats_or_forms_go_not_round_so(self):
        crossed = of_rules({("f", (0, "d")): part(0, "e"), ("f", (1, "e")): part(1, "d")})
        self.told(crossed, self.table(), True)
        across = of_rules({("f", (-1, "u")): own("v"), ("g", (-1, "v")): own("u")})
        self.told(across, self.table(), True)
        own_downs = of_rules({("f", (0, "d")): own("e"), ("f", (0, "e")): own("d")})
        self.told(own_downs, self.table(), True)
        parts = of_rules({("f", (-1, "u")): part(0, "v"), ("f", (-1, "v")): part(0, "u")})
        self.told(parts, self.table(), True)

    def test_a_round_of_three(self):
        sorts = (("s", ("p", "q", "r"), ("x", "y", "z")),)
        for words, at in (("xyz", -1), ("pqr", 0)):
            told = {("f", (at, one)): own(other) if at == -1 else part(0, other)
                    for one, other in zip(words, words[1:] + words[0])}
            for number in (1, 2):
                table = {("s", word): number for word in "pqrxyz"}
                self.told(of_rules(told, sorts, (("f", "s", ("s",)), ("g", "s", ()))), table, False)
                fewer = dict(list(told.items())[:2])
                self.told(of_rules(fewer, sorts, (("f", "s", ("s",)), ("g", "s", ()))), table, True)

    def test_a_form_that_is_not_live_is_not_asked(self):
        sorts = SORTS + (("none", (), ("w",)),)
        for told in ({("f", (-1, "u")): own("u")}, {("f", (0, "d")): part(0, "u")},
                     {("f", (-1, "u")): own("v"), ("f", (-1, "v")): own("u")}):
            table = {**self.table(), ("none", "w"): 1}
            heads = (("f", "s", ("s", "none")), ("g", "s", ()))
            self.told(of_rules(told, sorts, heads), table, True)
            self.told(of_rules(told, sorts, heads + (("h", "none", ()),)), table, False)
            self.told(of_rules(told, sorts, heads), self.table(), False)

    def test_no_worths(self):
        book = book_with(0, (("s", (), ()),), (("f", "s", ("s",)), ("g", "s", ())), lambda bare, form, key: ONE)
        self.told(book, {}, True)
        self.told(book, {("s", "u"): 1}, False)

    def test_as_the_words_tell(self):
        seen = {True: 0, False: 0}
        for seed in range(200):
            chance, book = random.Random(seed), random_book(seed, 0.2)
            worths = [(name, word) for name, downs, ups in book[1] for word in downs + ups]
            told = passes_of(book)
            for _ in range(8):
                table = {worth: chance.randrange(1, 4) for worth in worths}
                if told[0] == "passes" and chance.random() < 0.6:
                    table = {**told[1]}
                    worth = chance.choice(worths)
                    table[worth] += chance.choice((-1, 0, 1, 2))
                due = holds_by_the_words(book, table)
                seen[due] += 1
                self.assertIs(holds(book, table), due)
        self.assertGreater(min(seen.values()), 150, seen)


class PassesTest(unittest.TestCase):

    def told(self, book):
        before = copy.deepcopy(book)
        told = passes_of(book)
        self.assertIsInstance(told, tuple)
        self.assertEqual(len(told), 2)
        self.assertEqual(passes_of(book), told)
        self.assertEqual(book, before)
        return told

    def passes(self, book, due=None):
        kind, table = self.told(book)
        self.assertEqual(kind, "passes")
        self.assertIs(holds_by_the_words(book, table), True)
        self.assertIs(holds(book, table), True)
        if due is not None:
            self.assertEqual(table, due)
        return table

    def stuck(self, book):
        kind, steps = self.told(book)
        self.assertEqual(kind, "stuck")
        self.assertIsInstance(steps, list)
        self.assertIs(stuck_by_the_words(book, steps), True)
        self.assertIs(is_stuck(book, steps), True)
        return steps

    def test_books_of_one_pass(self):
        for book in (LEVEL_BOOK, one_rule((-1, "u"), own("v")), one_rule((1, "d"), part(0, "u"))):
            self.assertEqual(set(self.passes(book).values()), {1})
        self.assertEqual(set(self.passes(ROW_BOOK)), {("row", word) for word in ("from", "step", "to", "sum")}
                         | {("cell", "at"), ("cell", "val")})
        self.assertEqual(set(self.passes(ROW_BOOK).values()), {1})

    def test_two_passes(self):
        self.passes(one_rule((0, "d"), part(1, "u")), {("s", "d"): 2, ("s", "e"): 1, ("s", "u"): 1, ("s", "v"): 1})
        self.passes(of_rules({("f", (0, "d")): part(0, "u"), ("g", (-1, "v")): own("d")}),
                    {("s", "d"): 2, ("s", "e"): 1, ("s", "u"): 1, ("s", "v"): 2})

    def test_many_passes(self):
        """Each sort's down waits for the up of the sort behind it, and its up for its own down."""
        sorts = tuple((name, ("p", "q", "r"), ("x", "y", "z")) for name in "abcd")
        heads = (("top", "a", ("a", "b", "c")), ("la", "a", ()), ("lb", "b", ()), ("lc", "c", ()), ("ld", "d", ()),
                 ("last", "c", ("d",)))
        told = {("top", (0, "p")): part(1, "x"), ("lb", (-1, "x")): own("p"), ("top", (1, "p")): part(2, "x"),
                ("lc", (-1, "x")): own("p"), ("top", (2, "p")): own("y"), ("la", (-1, "y")): own("q"),
                ("top", (0, "q")): part(1, "y"), ("lb", (-1, "y")): own("q"), ("top", (1, "q")): part(2, "y"),
                ("lc", (-1, "y")): own("q"), ("last", (0, "r")): part(0, "z")}
        table = self.passes(of_rules(told, sorts, heads))
        due = {worth: 1 for worth in table}
        due.update({("b", "q"): 2, ("b", "y"): 2, ("a", "q"): 3, ("a", "y"): 3, ("c", "p"): 4, ("c", "x"): 4,
                    ("b", "p"): 5, ("b", "x"): 5, ("a", "p"): 6, ("d", "r"): 2})
        self.assertEqual(table, due)

    def test_a_late_reading_round(self):
        for told in (
            {("f", (0, "d")): part(0, "u"), ("g", (-1, "u")): own("d")},
            {("f", (0, "d")): own("u"), ("f", (-1, "u")): part(1, "d")},
            {("f", (0, "d")): part(1, "e"), ("f", (1, "e")): part(0, "d")},
            {("f", (-1, "u")): own("u")}, {("f", (1, "e")): part(1, "e")}, {("f", (0, "e")): part(1, "e")},
            {("f", (0, "d")): part(1, "u"), ("f", (-1, "u")): own("v"), ("g", (-1, "v")): own("e"), ("f", (1, "e")): own("d")},
        ):
            steps = self.stuck(of_rules(told))
            self.assertLessEqual({step[:2] for step in steps}, {(form, ATS.index(key)) for form, key in told})

    def test_rules_of_one_form_and_at_round(self):
        for told in (
            {("f", (-1, "u")): own("v"), ("f", (-1, "v")): own("u")},
            {("f", (0, "d")): part(0, "e"), ("f", (0, "e")): ("plus", ONE, part(0, "d"))},
            {("f", (1, "d")): part(1, "e"), ("f", (1, "e")): part(1, "d")},
            {("g", (-1, "u")): own("v"), ("g", (-1, "v")): own("u")},
        ):
            steps = self.stuck(of_rules(told))
            self.assertEqual(len(steps), 2)
            fewer = dict(list(told.items())[:1])
            self.assertEqual(set(self.passes(of_rules(fewer)).values()), {1})

    def test_a_round_without_a_late_step_over_several_forms_is_none(self):
        book = of_rules({("f", (-1, "u")): own("v"), ("g", (-1, "v")): own("u"), ("f", (0, "d")): own("e"),
                         ("f", (0, "e")): own("d")})
        self.assertEqual(set(self.passes(book).values()), {1})

    def test_what_hangs_on_a_late_step_that_leads_nowhere_back(self):
        book = of_rules({("f", (0, "d")): part(1, "u"), ("f", (1, "d")): part(0, "u"), ("f", (-1, "v")): own("d"),
                         ("f", (-1, "u")): own("e"), ("f", (1, "e")): part(0, "e")})
        self.passes(book, {("s", "d"): 2, ("s", "e"): 1, ("s", "u"): 1, ("s", "v"): 2})

    def test_a_form_that_is_not_live_is_not_asked(self):
        sorts = SORTS + (("none", ("w",), ("t",)),)
        heads = (("f", "s", ("s", "none")), ("g", "s", ()), ("h", "none", ("none",)))
        for told in ({("f", (-1, "u")): own("u")}, {("f", (0, "d")): part(0, "u")}, {("h", (-1, "t")): own("t")}):
            table = self.passes(of_rules(told, sorts, heads))
            self.assertEqual(table, {("s", "d"): 1, ("s", "e"): 1, ("s", "u"): 1, ("s", "v"): 1, ("none", "w"): 1,
                                     ("none", "t"): 1})
        self.stuck(of_rules({("f", (-1, "u")): own("u")}, sorts, heads + (("i", "none", ()),)))

    def test_no_worths(self):
        book = book_with(0, (("s", (), ()),), (("f", "s", ("s",)), ("g", "s", ())), lambda bare, form, key: ONE)
        self.passes(book, {})
        self.assertEqual(passes_of(book), ("passes", {}))

    def test_no_grown_sort(self):
        book = of_rules({("f", (-1, "u")): own("u")}, SORTS, (("f", "s", ("s",)),))
        self.passes(book, {("s", word): 1 for word in "deuv"})

    def test_least_among_all_that_hold(self):
        found = 0
        for seed in range(300):
            book = random_book(seed, 0.3)
            told = self.told(book)
            if told[0] != "passes" or not 1 < len(told[1]) <= 6:
                continue
            least = told[1]
            found += max(least.values()) > 1
            for table in all_tables(book, 3):
                if any(table[worth] < number for worth, number in least.items()):
                    self.assertIs(holds(book, table), False)
        self.assertGreater(found, 5)

    def test_no_worth_can_have_a_lesser_pass(self):
        """Where a table held with a lesser pass somewhere, the lesser of both would hold, too."""
        for seed in range(150):
            book = random_book(seed)
            told = self.told(book)
            if told[0] == "passes":
                ranges = [range(1, number + 1) for number in told[1].values()]
                for numbers in itertools.islice(itertools.product(*ranges), 300):
                    table = dict(zip(told[1], numbers))
                    self.assertIs(holds_by_the_words(book, table), table == told[1])

    def test_what_is_told_bears_itself_out(self):
        seen = {"passes": 0, "stuck": 0}
        lengths, greatest = set(), set()
        for seed in range(400):
            book = random_book(seed)
            kind = self.told(book)[0]
            seen[kind] += 1
            if kind == "passes":
                greatest.add(max(self.passes(book).values(), default=0))
            else:
                lengths.add(len(self.stuck(book)))
        self.assertGreater(min(seen.values()), 100, seen)
        self.assertGreater(min(len(lengths), len(greatest)), 2)
        self.assertIn(self.told(full_book())[0], ("passes", "stuck"))

    def test_books_made_straight(self):
        seen = 0
        for seed in range(150):
            book = random_book(seed)
            try:
                made = made_straight(book)
            except (Tangled, TooGreat):
                continue
            told = self.told(made)
            seen += 1
            (self.passes if told[0] == "passes" else self.stuck)(made)
        self.assertGreater(seen, 30)

    def test_what_is_told_is_the_askers_own(self):
        book = of_rules({("f", (0, "d")): part(1, "u")})
        told = passes_of(book)
        told[1].clear()
        self.passes(book)
        stuck = of_rules({("f", (-1, "u")): own("u")})
        passes_of(stuck)[1].clear()
        self.stuck(stuck)


# g: u reads d. f: part 0's d reads part 0's u (late) and its e, e reads d of part 0: d and e round at one at.
STUCK_TOLD = {
    ("g", (-1, "u")): ("plus", own("d"), own("e")), ("g", (-1, "v")): own("u"),
    ("f", (-1, "u")): own("v"), ("f", (-1, "v")): ("times", own("u"), own("v")),
    ("f", (0, "d")): ("plus", part(0, "u"), part(0, "e")), ("f", (0, "e")): part(0, "d"),
    ("f", (1, "d")): ("plus", part(0, "d"), part(1, "e")), ("f", (1, "e")): own("e"),
    ("k", (-1, "u")): own("u"), ("k", (0, "d")): part(0, "u"),
}
STUCK_SORTS = SORTS + (("none", (), ()),)
STUCK_HEADS = HEADS + (("k", "s", ("s", "none")),)
STUCK_BOOK = of_rules(STUCK_TOLD, STUCK_SORTS, STUCK_HEADS)
# The late one: part 0's d reads its u; u by g reads d.
LATE = [("f", 2, part(0, "u")), ("g", 0, own("d"))]
# Without a late one: d and e of part 0, u and v of f.
DOWNS_ROUND = [("f", 2, part(0, "e")), ("f", 3, part(0, "d"))]
UPS_ROUND = [("f", 0, own("v")), ("f", 1, own("u"))]


class IsStuckTest(unittest.TestCase):

    def told(self, steps, due, book=STUCK_BOOK):
        paper_looked_at(self, is_stuck, stuck_by_the_words, book, steps, due)

    def test_steps_turned_about_and_again(self):
        for steps in (LATE, DOWNS_ROUND, UPS_ROUND):
            self.told(steps, True)
            self.told(steps[::-1], True)
            self.told(steps + steps, True)
            self.told(steps * 500, True)

    def test_one_step(self):
        self.told([("f", 1, own("v"))], True)
        for step in LATE + DOWNS_ROUND + UPS_ROUND + [("f", 5, own("e")), ("f", 4, part(0, "d"))]:
            self.told([step], stuck_by_the_words(STUCK_BOOK, [step]))
        # e of part 1 reads the own e, and d of part 1 the d of part 0: the same worths, but ready.
        self.told([("f", 5, own("e"))], False)
        self.told([("f", 4, part(0, "d"))], False)

    def test_longer_ways_round(self):
        self.told([("f", 2, part(0, "u")), ("g", 0, own("e")), ("f", 3, part(0, "d"))], True)
        self.told([("f", 2, part(0, "u")), ("f", 0, own("v")), ("g", 1, own("u")), ("g", 0, own("d"))], True)
        self.told(LATE + DOWNS_ROUND, True)
        self.told([("f", 4, part(0, "d"))] + LATE, True)

    def test_none(self):
        self.told([], False)

    def test_none_late_and_not_of_one_form_and_at(self):
        """u by f reads v, v by g reads u: no step is late, and they are not of one form."""
        self.told([("f", 0, own("v")), ("g", 1, own("u"))], False)
        # d of part 1 reads e there, and e of part 0 reads d there: one form, but not one at.
        self.told([("f", 4, part(1, "e")), ("f", 3, part(0, "d"))], False)
        # d of part 1 reads d of part 0, which is the worth that the rule at 1 tells, too, but not there.
        self.told([("f", 4, part(0, "d")), ("f", 4, part(0, "d"))], False)
        self.told([("f", 4, part(1, "e")), ("f", 5, own("e")), ("f", 3, part(0, "d"))], False)
        # Both rules at 1, but one reads its worth elsewhere.
        book = of_rules({("f", (1, "d")): part(1, "e"), ("f", (1, "e")): part(0, "d")})
        self.told([("f", 4, part(1, "e")), ("f", 5, part(0, "d"))], False, book)
        there = of_rules({("f", (1, "d")): part(1, "e"), ("f", (1, "e")): part(1, "d")})
        self.told([("f", 4, part(1, "e")), ("f", 5, part(1, "d"))], True, there)

    def test_another_forms_name(self):
        for steps in (LATE, DOWNS_ROUND, UPS_ROUND):
            for k, step in enumerate(steps):
                for name in ("", "nowhere", "s", "F", "f ", "k", "h"):
                    self.told(steps[:k] + [(name,) + step[1:]] + steps[k + 1:], False)
        self.told([("g", 2, part(0, "u")), ("g", 0, own("d"))], False)

    def test_a_form_that_is_not_live(self):
        for steps in ([("k", 0, own("u"))], [("k", 2, part(0, "u")), ("g", 0, own("d"))],
                      [LATE[0], ("k", 0, own("u")), LATE[1]]):
            self.told(steps, False)
        grown = of_rules(STUCK_TOLD, STUCK_SORTS, STUCK_HEADS + (("none", "none", ()),))
        self.told([("k", 0, own("u"))], True, grown)
        self.told([("k", 2, part(0, "u")), ("g", 0, own("d"))], True, grown)

    def test_a_number_of_no_rule(self):
        for steps in (LATE, DOWNS_ROUND, UPS_ROUND):
            for k, step in enumerate(steps):
                for number in (-1, -4, -6, 6, 7, 100, 10 ** 30, -10 ** 30):
                    self.told(steps[:k] + [(step[0], number, step[2])] + steps[k + 1:], False)
        self.told([("f", -4, part(0, "u")), ("g", -2, own("d"))], False)
        self.told([("f", -5, own("v"))], False)

    def test_another_number(self):
        for steps in (LATE, DOWNS_ROUND, UPS_ROUND):
            for k, step in enumerate(steps):
                for number in range(6):
                    if number != step[1]:
                        other = steps[:k] + [(step[0], number, step[2])] + steps[k + 1:]
                        self.told(other, stuck_by_the_words(STUCK_BOOK, other))

    def test_a_reading_that_is_none_of_the_rules(self):
        for steps in (LATE, DOWNS_ROUND, UPS_ROUND):
            for k, step in enumerate(steps):
                for reading in ALL_READINGS + [own("x"), part(2, "d"), part(2, "u")]:
                    if reading != step[2]:
                        other = steps[:k] + [step[:2] + (reading,)] + steps[k + 1:]
                        self.told(other, stuck_by_the_words(STUCK_BOOK, other))
        self.told([("f", 2, part(1, "u")), ("g", 0, own("d"))], False)
        self.told([("f", 2, part(0, "u")), ("g", 0, own("v"))], False)

    def test_not_closed(self):
        self.told(LATE[:1], False)
        self.told(LATE[1:], False)
        self.told(LATE + LATE[:1], False)
        self.told(LATE + UPS_ROUND, False)
        self.told(DOWNS_ROUND + UPS_ROUND, False)
        self.told([("f", 2, part(0, "u")), ("g", 0, own("e"))], False)

    def test_all_short_rows_of_steps(self):
        steps = []
        for form in STUCK_BOOK[2]:
            for number, rule in enumerate(form[3]):
                steps += [(form[0], number, reading) for reading in readings_in_order(rule[2])]
        steps += [("f", 6, own("u")), ("g", 0, own("u")), ("nowhere", 0, own("u"))]
        found = 0
        for many in (1, 2, 3):
            for row in itertools.product(steps, repeat=many):
                due = stuck_by_the_words(STUCK_BOOK, list(row))
                found += due
                self.assertIs(is_stuck(STUCK_BOOK, list(row)), due)
        self.assertGreater(found, 15)

    def test_where_passes_are_told_no_steps_are_stuck(self):
        book = of_rules({("f", (0, "d")): part(1, "u"), ("g", (-1, "v")): own("d")})
        self.assertEqual(passes_of(book)[0], "passes")
        for row in ([("f", 2, part(1, "u"))], [("g", 1, own("d")), ("f", 2, part(1, "u"))], [("g", 1, own("d"))]):
            self.told(row, False, book)


if __name__ == "__main__":
    unittest.main()
