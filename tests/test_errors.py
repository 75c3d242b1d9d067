"""Point 2 and the interface: the refusals."""

import unittest

from boughworth import errors
from boughworth.errors import BoughError

FIELDS = {"NoBook": "fault", "Tangled": "form", "Ring": "ring"}
THINGS = {"NoBook": "shape", "Tangled": "leaf", "Ring": [((), "x"), ((0, 1), "y")]}
NAMES = [
    "NoText", "NoBook", "Tangled", "TooGreat", "NoPlace", "NoFit", "NoTree", "TooMany", "NoSpot",
    "NoGiven", "Ring", "NoChange", "NoPlain", "NoBuild", "NoWorth", "NoPrice", "NoRow", "NoName",
]


def thing_for(name):
    return THINGS.get(name, "some words")


class ErrorsTest(unittest.TestCase):

    def test_bough_error_stands_straight_under_value_error(self):
        self.assertEqual(BoughError.__bases__, (ValueError,))

    def test_each_class_stands_straight_under_bough_error(self):
        for name in NAMES:
            with self.subTest(name):
                self.assertEqual(getattr(errors, name).__bases__, (BoughError,))

    def test_none_stands_under_another_one(self):
        classes = [getattr(errors, name) for name in NAMES]
        self.assertEqual(len(set(classes)), 18)
        for one in classes:
            for other in classes:
                if one is not other:
                    self.assertFalse(issubclass(one, other), (one, other))

    def test_each_is_made_of_one_thing_and_taken_by_its_own_name(self):
        for name in NAMES:
            own = getattr(errors, name)
            with self.subTest(name), self.assertRaises(own):
                raise own(thing_for(name))

    def test_each_is_taken_as_bough_error_and_as_value_error(self):
        for name in NAMES:
            for wider in (BoughError, ValueError):
                with self.subTest(name), self.assertRaises(wider):
                    raise getattr(errors, name)(thing_for(name))

    def test_none_is_taken_by_another_ones_name(self):
        for name in NAMES:
            others = tuple(getattr(errors, other) for other in NAMES if other != name)
            with self.subTest(name):
                try:
                    raise getattr(errors, name)(thing_for(name))
                except others:
                    self.fail("taken by another one's name")
                except BoughError as refusal:
                    self.assertIs(refusal.__class__, getattr(errors, name))

    def test_fields_are_kept(self):
        for name, field in FIELDS.items():
            with self.subTest(name):
                refusal = getattr(errors, name)(thing_for(name))
                self.assertEqual(getattr(refusal, field), thing_for(name))

    def test_field_of_ring_is_a_list_that_no_later_change_reaches(self):
        ring = [((), "x")]
        refusal = errors.Ring(ring)
        ring.append(((0,), "y"))
        self.assertEqual(refusal.ring, [((), "x")])
        self.assertEqual(refusal.args, ([((), "x")],))
        refusal.ring.clear()
        self.assertEqual(ring, [((), "x"), ((0,), "y")])

    def test_those_without_a_field_show_their_text(self):
        for name in NAMES:
            if name not in FIELDS:
                with self.subTest(name):
                    self.assertEqual(str(getattr(errors, name)("some words")), "some words")


if __name__ == "__main__":
    unittest.main()
