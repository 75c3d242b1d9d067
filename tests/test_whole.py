"""The interface, and points 1, 2 and 4: what the document promises over the whole program."""

import copy
import importlib
import inspect
import random
import subprocess
import sys
import unittest

from boughworth import errors
from boughworth.alikes import alike, bears_out
from boughworth.asking import worths_of
from boughworth.booktexts import read_book, show_book
from boughworth.cheapest import cheapest, is_cheapest
from boughworth.desk import Desk
from boughworth.errors import BoughError, Ring, Tangled, TooGreat
from boughworth.hangs import hang_of
from boughworth.kept import Kept
from boughworth.orders import is_order, is_ring
from boughworth.passes import holds, is_stuck, passes_of
from boughworth.safety import is_safe, order_for_all
from boughworth.straight import made_straight
from boughworth.treetexts import show_tree
from boughworth.walks import walked
from example_books import LEVEL_BOOK
from example_plain import two_plain_books
from example_trees import books_with_trees, fewest_places, random_book, random_tree, size

INTERFACE = {
    "formulas": {"is_formula": "thing", "size_of": "formula", "readings_of": "formula"},
    "reckoning": {"reckoned": "formula told wheel"},
    "formulatexts": {"show_formula": "formula", "read_formula": "text"},
    "books": {"why_no_book": "thing", "need_book": "thing", "rule_at": "book form at word"},
    "straight": {"is_straight": "book", "made_straight": "book"},
    "trees": {"is_tree": "book thing", "sort_of": "book tree", "places_of": "tree", "bough_at": "tree place",
              "put_at": "book tree place bough"},
    "treetexts": {"show_tree": "tree", "read_tree": "book text"},
    "growth": {"least_sizes": "book", "least_tree": "book sort", "live_forms": "book", "many_trees": "book sort size",
               "trees_of": "book sort size"},
    "spots": {"spots_of": "book tree", "reads_at": "book tree spot"},
    "asking": {"worth_at": "book tree given spot", "worths_of": "book tree given"},
    "orders": {"is_ring": "book tree spots", "is_order": "book tree spots"},
    "hangs": {"hang_of": "book tree"},
    "safety": {"is_safe": "book table", "order_for_all": "book"},
    "passes": {"holds": "book table", "passes_of": "book", "is_stuck": "book steps"},
    "walks": {"walked": "book tree given table"},
    "kept": {"Kept": "book tree given"},
    "plainbooks": {"is_plain": "book", "of_one_build": "one other", "row_of": "one other tree"},
    "alikes": {"alike": "one other sort x y", "bears_out": "one other sort x y basis"},
    "cheapest": {"is_priced": "book pricing", "cheapest": "book pricing", "is_cheapest": "book pricing told"},
    "booktexts": {"show_book": "book", "read_book": "text"},
    "desk": {"Desk": ""},
}
METHODS = {
    Kept: {"put": "place bough", "give": "word number", "back": "", "tree": "", "given": "", "worth": "spot", "worths": "",
           "why": "spot"},
    Desk: {"say": "row"},
}
FIELDS = {"NoBook": "fault", "Tangled": "form", "Ring": "ring"}


class InterfaceTest(unittest.TestCase):

    def test_names_and_arguments(self):
        for module, names in INTERFACE.items():
            for name, arguments in names.items():
                with self.subTest(module=module, name=name):
                    thing = getattr(importlib.import_module("boughworth." + module), name)
                    self.assertEqual(list(inspect.signature(thing).parameters), arguments.split())
                    self.assertEqual(thing.__module__, "boughworth." + module)

    def test_methods(self):
        for kind, names in METHODS.items():
            for name, arguments in names.items():
                with self.subTest(kind=kind, name=name):
                    self.assertEqual(list(inspect.signature(getattr(kind, name)).parameters)[1:], arguments.split())

    def test_refusals(self):
        self.assertEqual(BoughError.__bases__, (ValueError,))
        names = [name for name, thing in vars(errors).items() if isinstance(thing, type) and thing is not BoughError]
        self.assertEqual(len(names), 18)
        for name in names:
            self.assertEqual(getattr(errors, name).__bases__, (BoughError,))
            refusal = getattr(errors, name)([] if name == "Ring" else "x")
            if name in FIELDS:
                self.assertEqual(getattr(refusal, FIELDS[name]), [] if name == "Ring" else "x")


class PapersTest(unittest.TestCase):
    """Each paper told holds when it is looked at by itself."""

    def test_of_one_tree(self):
        seen = {}
        for book, tree, given in books_with_trees(120, 12):
            told = worths_of(book, tree, given)
            seen[told[0]] = seen.get(told[0], 0) + 1
            if told[0] == "worths":
                self.assertTrue(is_order(book, tree, told[2]))
                self.assertEqual(Kept(book, tree, given).worths(), told[1])
            else:
                self.assertTrue(is_ring(book, tree, told[1]))
                with self.assertRaises(Ring) as caught:
                    Kept(book, tree, given)
                self.assertTrue(is_ring(book, tree, caught.exception.ring))
        self.assertGreater(min(seen.values()), 20, seen)

    def test_of_all_trees(self):
        """No tree has a ring where a table is told; all are walked where passes are."""
        for seed in range(80):
            chance, book = random.Random(seed), random_book(seed)
            safe, passes = order_for_all(book), passes_of(book)
            if safe[0] == "safe":
                self.assertTrue(is_safe(book, safe[1]))
            else:
                self.assertTrue(is_ring(book, safe[1], safe[2]))
            self.assertTrue(holds(book, passes[1]) if passes[0] == "passes" else is_stuck(book, passes[1]))
            # Where so many walks are enough no tree has a ring.
            self.assertFalse(passes[0] == "passes" and safe[0] == "ring")
            for sort in fewest_places(book):
                tree = random_tree(chance, book, sort, 15)
                if safe[0] == "safe":
                    hang = set(hang_of(book, tree))
                    self.assertTrue(any(hang <= set(other) for other in safe[1][sort]))
                if passes[0] == "passes" and size(tree) <= 60:
                    given = {down: 3 for down in [one[1] for one in book[1] if one[0] == sort][0]}
                    told = {spot: worth for number, spot, worth in walked(book, tree, given, passes[1])}
                    worths = worths_of(book, tree, given)[1]
                    self.assertEqual({**worths, **told}, worths)
                    self.assertEqual(len(told) + len(given), len(worths))

    def test_of_plain_books(self):
        for seed in range(40):
            one, other = two_plain_books(seed, 5, (0, 1))
            for sort in fewest_places(one):
                for x in [ups for name, downs, ups in one[1] if name == sort][0]:
                    for y in [ups for name, downs, ups in other[1] if name == sort][0]:
                        told = alike(one, other, sort, x, y)
                        if told[0] == "alike":
                            self.assertTrue(bears_out(one, other, sort, x, y, told[1]))

    def test_of_prices(self):
        book = LEVEL_BOOK[:2] + (LEVEL_BOOK[2][:3],)
        pricing = {"tree": "size", "word": "long"}
        self.assertTrue(is_cheapest(book, pricing, cheapest(book, pricing)))

    def test_of_books_made_straight(self):
        """Handed on wherever a book may be."""
        many = 0
        for seed in range(60):
            try:
                book = made_straight(random_book(seed))
            except (Tangled, TooGreat):
                continue
            many += 1
            safe, passes = order_for_all(book), passes_of(book)
            self.assertTrue(is_safe(book, safe[1]) if safe[0] == "safe" else is_ring(book, safe[1], safe[2]))
            self.assertTrue(holds(book, passes[1]) if passes[0] == "passes" else is_stuck(book, passes[1]))
            self.assertEqual(show_book(book).count("\nform "), len(book[2]))
        self.assertGreater(many, 20)


ASKED_ANEW = """
from boughworth.alikes import alike
from boughworth.asking import worths_of
from boughworth.passes import passes_of
from boughworth.safety import order_for_all
from example_plain import two_plain_books
from example_trees import books_with_trees

for book, tree, given in books_with_trees(12, 9):
    turned = dict(reversed(given.items()))
    assert worths_of(book, tree, given) == worths_of(book, tree, turned)
    print(worths_of(book, tree, given), order_for_all(book), passes_of(book))
for seed in range(12):
    one, other = two_plain_books(seed, 5, (0, 1))
    if one[1][0][2] and other[1][0][2]:
        print(alike(one, other, one[1][0][0], one[1][0][2][0], other[1][0][2][0]))
"""


class SameTest(unittest.TestCase):

    def test_the_same_is_told_of_the_same_things_also_by_another_process(self):
        """Nothing hangs on the order of a set's members, which is another one in each process."""
        told = set()
        for seed in ("1", "2", "77"):
            done = subprocess.run([sys.executable, "-c", ASKED_ANEW], capture_output=True, text=True, check=True,
                                  env={"PYTHONHASHSEED": seed, "PYTHONPATH": ":".join(path for path in sys.path if path)
                                       + ":."})
            told.add(done.stdout)
        self.assertEqual(len(told), 1)
        self.assertIn("parted", told.pop())

    def test_what_is_handed_in_stays(self):
        for book, tree, given in books_with_trees(20, 9):
            before = copy.deepcopy((book, tree, given))
            worths_of(book, tree, given)
            order_for_all(book)
            passes_of(book)
            self.assertEqual(read_book(show_book(book)), book)
            desk = Desk()
            desk.say("book b\n" + show_book(book))
            if size(tree) <= 60:
                desk.say("tree t b " + show_tree(tree))
                desk.say("order t " + " ".join(f"{down}={number}" for down, number in given.items())
                         if given else "order t")
            self.assertEqual((book, tree, given), before)


if __name__ == "__main__":
    unittest.main()
