"""Point 12: trees, their places and boughs."""

import itertools
import random
import unittest

from boughworth.errors import BoughError, NoFit, NoPlace
from boughworth.straight import made_straight
from boughworth.trees import bough_at, is_tree, places_of, put_at, sort_of
from example_books import (
    DEEP_THINGS, LEVEL_BOOK, ODD_THINGS, ROW_BOOK, book_with, changed, found_at, paths_of,
)
from examples import ONE, within

SORTS = (("a", ("d",), ("u",)), ("b", (), ()))
HEADS = (
    ("nil", "a", ()), ("one", "a", ("a",)), ("two", "a", ("a", "b")), ("three", "a", ("b", "a", "a")),
    ("dot", "b", ()), ("line", "b", ("b",)), ("fold", "b", ("a", "b")),
)
BOOK = book_with(2, SORTS, HEADS, lambda bare, form, key: ONE)
FORMS = {name: (sort, parts) for name, sort, parts in HEADS}

NIL, DOT = ("nil", ()), ("dot", ())
TREE = ("three", (("line", (DOT,)), ("two", (("one", (NIL,)), ("fold", (NIL, DOT)))), ("one", (NIL,))))
PLACES = [
    (), (0,), (0, 0), (1,), (1, 0), (1, 0, 0), (1, 1), (1, 1, 0), (1, 1, 1), (2,), (2, 0),
]
BOUGHS = [
    TREE, ("line", (DOT,)), DOT, ("two", (("one", (NIL,)), ("fold", (NIL, DOT)))), ("one", (NIL,)), NIL,
    ("fold", (NIL, DOT)), NIL, DOT, ("one", (NIL,)), NIL,
]


def tower(places):
    """A tree of so many places, each beneath the one ahead."""
    return within(places - 1, NIL, lambda inner: ("one", (inner,)))


def comb(places):
    """A tree of so many places, an odd number, with a bough on the right at each step."""
    return within(places // 2, NIL, lambda inner: ("two", (inner, DOT)))


def many_leaves(rounds):
    """A tree of 2 ** (rounds + 1) - 1 places, as wide as can be."""
    return within(rounds, ("leaf", (("ab", ()),)), lambda inner: ("join", (inner, inner)))


def is_tree_by_the_words(thing, sort=None):
    """Point 12 word by word, but for the number of places."""
    if not isinstance(thing, tuple) or len(thing) != 2 or not isinstance(thing[0], str) or thing[0] not in FORMS:
        return False
    own_sort, parts = FORMS[thing[0]]
    if sort not in (None, own_sort) or not isinstance(thing[1], tuple) or len(thing[1]) != len(parts):
        return False
    return all(is_tree_by_the_words(inner, part) for inner, part in zip(thing[1], parts))


def random_tree(chance, sort, depth):
    names = [name for name, (own_sort, parts) in FORMS.items() if own_sort == sort and (depth > 0 or not parts)]
    name = chance.choice(names)
    return (name, tuple(random_tree(chance, part, depth - 1) for part in FORMS[name][1]))


def random_trees(many):
    chance = random.Random(7)
    trees = [random_tree(chance, chance.choice("ab"), chance.randrange(5)) for _ in range(many)]
    return [tree for tree in trees if len(places_by_the_words(tree)) <= 60]


def places_by_the_words(tree, place=()):
    found = [place]
    for k, inner in enumerate(tree[1]):
        found += places_by_the_words(inner, place + (k,))
    return found


def path_to(place):
    """The bough's path as a thing within the tree's tuples."""
    return tuple(itertools.chain(*[(1, k) for k in place]))


class IsTreeTest(unittest.TestCase):

    def yes(self, thing, book=BOOK):
        self.assertIs(is_tree(book, thing), True)

    def no(self, thing, book=BOOK):
        self.assertIs(is_tree(book, thing), False)

    def test_trees(self):
        for tree in [TREE] + BOUGHS:
            self.yes(tree)
        self.yes(many_leaves(0), LEVEL_BOOK)
        self.yes(many_leaves(2), LEVEL_BOOK)
        self.yes(("more", (("ab", ()),)), LEVEL_BOOK)
        self.yes(("some", (("same", ()), ("none", ()))), ROW_BOOK)
        self.yes(("some", (("same", ()), ("none", ()))), made_straight(ROW_BOOK))

    def test_one_to_sixty_places(self):
        for many in range(1, 61):
            self.yes(tower(many))
        for many in range(1, 60, 2):
            self.yes(comb(many))
        self.yes(("one", (comb(59),)))

    def test_sixty_one_places_and_more(self):
        for many in (61, 62, 100, 190):
            self.no(tower(many))
        for many in (61, 63, 101):
            self.no(comb(many))
        self.no(("two", (comb(59), DOT)))
        self.no(("two", (NIL, within(59, DOT, lambda inner: ("line", (inner,))))))
        self.yes(("two", (NIL, within(57, DOT, lambda inner: ("line", (inner,))))))

    def test_a_bough_that_stands_there_several_times_counts_each_time(self):
        self.yes(many_leaves(4), LEVEL_BOOK)
        self.yes(("join", (many_leaves(3), many_leaves(3))), LEVEL_BOOK)
        self.no(many_leaves(5), LEVEL_BOOK)
        self.no(many_leaves(11), LEVEL_BOOK)

    def test_another_forms_name_or_none(self):
        for path in paths_of(TREE):
            if isinstance(found_at(TREE, path), str):
                for name in ("", "nowhere", "a", "b", "Nil", "nil ", None, True, 0, (), ("nil",), ["nil"], {}):
                    self.no(changed(TREE, path, name))
                for name in FORMS:
                    other = changed(TREE, path, name)
                    self.assertIs(is_tree(BOOK, other), is_tree_by_the_words(other))

    def test_a_part_fewer_more_or_of_another_sort(self):
        for place, bough in zip(PLACES, BOUGHS):
            path, parts = path_to(place), bough[1]
            for more in (NIL, DOT, None, ()):
                self.no(changed(TREE, path + (1,), parts + (more,)))
                self.no(changed(TREE, path + (1,), (more,) + parts))
            if parts:
                for fewer in (parts[1:], parts[:-1], ()):
                    self.no(changed(TREE, path + (1,), fewer))
            if place != ():
                self.no(changed(TREE, path, DOT if FORMS[bough[0]][0] == "a" else NIL))

    def test_parts_turned_about(self):
        self.no(("two", (DOT, NIL)))
        self.no(("fold", (DOT, NIL)))
        self.no(("three", (NIL, DOT, NIL)))
        self.yes(("three", (DOT, NIL, NIL)))

    def test_lists_and_other_kinds_in_the_place_of_tuples(self):
        for path in paths_of(TREE):
            thing = found_at(TREE, path)
            if isinstance(thing, tuple):
                for other in (list(thing), {}, dict(enumerate(thing)), None, "nil", 0, True, thing + (None,)):
                    with self.subTest(path=path, other=other):
                        self.no(changed(TREE, path, other))

    def test_too_few_and_too_many(self):
        for thing in ((), ("nil",), ("nil", (), ()), ("nil", (), None), ("nil", NIL), ("one", NIL), ("nil", ((),)),
                      ("one", ()), ("one", ((),)), ("two", (NIL,)), (NIL,), (NIL, NIL), ("nil", ""), ("one", "a")):
            self.no(thing)

    def test_of_anything(self):
        for book in (BOOK, LEVEL_BOOK, ROW_BOOK):
            for thing in ODD_THINGS + DEEP_THINGS:
                self.no(thing, book)
        for thing in ODD_THINGS + DEEP_THINGS:
            self.no(("one", (thing,)))
            self.no((thing, ()))
            self.no(("two", (NIL, thing)))
            if thing != ():
                self.no(("nil", thing))

    def test_things_two_hundred_within_one_another(self):
        for wrap in (
            lambda inner: ("one", (inner,)), lambda inner: ("two", (inner, DOT)), lambda inner: ("line", (inner,)),
            lambda inner: ("one", inner), lambda inner: (inner, (NIL,)), lambda inner: ("three", (DOT, NIL, inner)),
        ):
            for core in (NIL, DOT, (), [], None):
                self.no(within(99, core, wrap))
                self.no(within(199, core, wrap))

    def test_things_of_ten_thousand_in_all(self):
        for thing in (("nil", (NIL,) * 3333), ("nil",) + (NIL,) * 3000, (NIL,) * 3333, ("two", (NIL,) * 3333),
                      ("one", ([NIL] * 3000,)), ("one", ({"nil": [0] * 9000},)), ("nil", (0,) * 9997)):
            self.no(thing)

    def test_trees_of_another_book(self):
        self.no(TREE, LEVEL_BOOK)
        self.no(("ab", ()))
        self.no(("none", ()), LEVEL_BOOK)

    def test_as_the_words_of_point_12_tell(self):
        things = [NIL, DOT, ("one", (NIL,)), ("fold", (TREE, DOT)), None, ("one", ()), ("dot", []), ()]
        made = []
        for name in list(FORMS) + ["other"]:
            for many in range(4):
                made += [(name, parts) for parts in itertools.product(things, repeat=many)]
        made += [("two", (one, other)) for one in made[::5] for other in (DOT, NIL)]
        self.assertGreater(sum(is_tree_by_the_words(thing) for thing in made), 20)
        for thing in made:
            self.assertIs(is_tree(BOOK, thing), is_tree_by_the_words(thing))

    def test_nothing_is_changed(self):
        inner = ["nil", []]
        self.no(("one", (inner,)))
        self.assertEqual(inner, ["nil", []])


class SortOfTest(unittest.TestCase):

    def test_each_form(self):
        for tree in [TREE] + BOUGHS + random_trees(50):
            self.assertEqual(sort_of(BOOK, tree), FORMS[tree[0]][0])
        self.assertEqual(sort_of(LEVEL_BOOK, ("ab", ())), "word")
        self.assertEqual(sort_of(LEVEL_BOOK, many_leaves(1)), "tree")
        self.assertEqual(sort_of(ROW_BOOK, ("none", ())), "row")
        self.assertEqual(sort_of(BOOK, tower(60)), "a")


class PlacesTest(unittest.TestCase):

    def test_one_place(self):
        told = places_of(NIL)
        self.assertIsInstance(told, list)
        self.assertEqual(told, [()])

    def test_in_order(self):
        self.assertEqual(places_of(TREE), PLACES)

    def test_sixty_places(self):
        self.assertEqual(places_of(tower(60)), [(0,) * many for many in range(60)])
        self.assertEqual(len(set(places_of(comb(59)))), 59)
        self.assertEqual(places_of(comb(59)), places_by_the_words(comb(59)))

    def test_each_ahead_of_those_beneath_it_and_part_0_first(self):
        for tree in random_trees(150):
            told = places_of(tree)
            self.assertEqual(told, places_by_the_words(tree))
            self.assertEqual(told, sorted(told))

    def test_a_told_list_that_was_changed_changes_nothing(self):
        told = places_of(TREE)
        told.clear()
        self.assertEqual(places_of(TREE), PLACES)
        told.append("spoilt")
        self.assertEqual(places_of(TREE), PLACES)
        self.assertIsNot(places_of(TREE), places_of(TREE))
        self.assertEqual(TREE[0], "three")


NO_PLACES = [
    (-1,), (3,), (0, 1), (0, -1), (0, 0, 0), (1, 2), (1, -1), (1, -2), (1, 0, 1), (1, 0, 0, 0), (2, 1), (2, 0, 0), (-3,),
    (10 ** 30,), (-10 ** 30,), (1, 10 ** 30), (0,) * 1000, (7,) * 1000, (1, 1, 2), (1, 1, -1), (-1, 0), (3, 0),
]


class BoughAtTest(unittest.TestCase):

    def test_each_bough(self):
        for place, bough in zip(PLACES, BOUGHS):
            self.assertEqual(bough_at(TREE, place), bough)

    def test_the_top(self):
        for tree in (NIL, TREE, tower(60)):
            self.assertEqual(bough_at(tree, ()), tree)

    def test_sixty_places(self):
        for many in range(60):
            self.assertEqual(bough_at(tower(60), (0,) * many), tower(60 - many))

    def test_no_places(self):
        for place in NO_PLACES:
            for wider in (NoPlace, BoughError, ValueError):
                with self.subTest(place=place), self.assertRaises(wider):
                    bough_at(TREE, place)
        for place in ((0,), (-1,), (0, 0)):
            with self.assertRaises(NoPlace):
                bough_at(NIL, place)
        with self.assertRaises(NoPlace):
            bough_at(tower(60), (0,) * 60)

    def test_each_tuple_of_numbers_is_a_place_or_refused(self):
        for tree in random_trees(30):
            places = places_by_the_words(tree)
            for length in range(4):
                for place in itertools.product(range(-2, 4), repeat=length):
                    if place in places:
                        self.assertIn(bough_at(tree, place)[0], FORMS)
                    else:
                        with self.assertRaises(NoPlace):
                            bough_at(tree, place)


class PutAtTest(unittest.TestCase):

    def test_at_each_place(self):
        for tree in [TREE] + random_trees(40):
            for place in places_by_the_words(tree):
                path = path_to(place)
                sort = FORMS[found_at(tree, path)[0]][0]
                for bough in BOUGHS:
                    if FORMS[bough[0]][0] == sort:
                        told = put_at(BOOK, tree, place, bough)
                        self.assertEqual(told, changed(tree, path, bough))
                        self.assertEqual(bough_at(told, place), bough)
                    else:
                        with self.assertRaises(NoFit):
                            put_at(BOOK, tree, place, bough)

    def test_told_is_a_tree(self):
        told = put_at(BOOK, TREE, (1, 1), ("line", (DOT,)))
        self.assertEqual(
            told,
            ("three", (("line", (DOT,)), ("two", (("one", (NIL,)), ("line", (DOT,)))), ("one", (NIL,)))),
        )
        self.assertIs(is_tree(BOOK, told), True)

    def test_at_the_top(self):
        self.assertEqual(put_at(BOOK, TREE, (), NIL), NIL)
        self.assertEqual(put_at(BOOK, DOT, (), ("line", (DOT,))), ("line", (DOT,)))
        with self.assertRaises(NoFit):
            put_at(BOOK, TREE, (), DOT)

    def test_what_was_there_put_again(self):
        for place, bough in zip(PLACES, BOUGHS):
            self.assertEqual(put_at(BOOK, TREE, place, bough), TREE)

    def test_no_fit(self):
        for wider in (NoFit, BoughError, ValueError):
            with self.assertRaises(wider):
                put_at(BOOK, TREE, (0,), NIL)
            with self.assertRaises(wider):
                put_at(ROW_BOOK, ("some", (("same", ()), ("none", ()))), (1,), ("same", ()))
        self.assertEqual(put_at(ROW_BOOK, ("some", (("same", ()), ("none", ()))), (0,), ("squared", ())),
                         ("some", (("squared", ()), ("none", ()))))

    def test_no_place_goes_ahead_of_no_fit(self):
        for place in NO_PLACES:
            for bough in (NIL, DOT):
                for wider in (NoPlace, BoughError, ValueError):
                    with self.subTest(place=place), self.assertRaises(wider):
                        put_at(BOOK, TREE, place, bough)

    def test_more_than_sixty_places_may_come_of_it(self):
        for place, bough, many in (((0,) * 59, tower(60), 119), ((0,) * 59, tower(2), 61), ((0,) * 58, comb(59), 117)):
            told = put_at(BOOK, tower(60), place, bough)
            bottom = told
            for _ in place:
                self.assertEqual((bottom[0], len(bottom[1])), ("one", 1))
                bottom = bottom[1][0]
            self.assertEqual(bottom, bough)
            self.assertIs(is_tree(BOOK, told), False)
            self.assertEqual(len(places_by_the_words(told)), many)

    def test_tree_and_bough_stay(self):
        tree, bough = changed(TREE, (), TREE), ("fold", (TREE, DOT))
        told = put_at(BOOK, tree, (1, 1, 1), bough)
        self.assertEqual(tree, TREE)
        self.assertEqual(bough, ("fold", (TREE, DOT)))
        self.assertEqual(places_of(tree), PLACES)
        self.assertNotEqual(told, tree)


if __name__ == "__main__":
    unittest.main()
