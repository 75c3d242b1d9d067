"""Rows made up of other rows, as point 27 wants them."""

import random
import unittest
from fractions import Fraction

from boughworth.rows import columns_left, fractions_for, is_fraction, is_made_up, lowest, shared_divisor, steps_of


def rank(rows):
    """By plain elimination with fractions."""
    rows, found = [[Fraction(number) for number in row] for row in rows], 0
    for column in range(len(rows[0]) if rows else 0):
        lead = [row for row in rows[found:] if row[column]]
        if lead:
            rest = [row for row in rows[found:] if row is not lead[0]]
            rest = [[a - b * row[column] / lead[0][column] for a, b in zip(row, lead[0])] for row in rest]
            rows, found = rows[:found] + [lead[0]] + rest, found + 1
    return found


def independent(chance, many, width, most):
    rows = []
    while len(rows) < many:
        row = tuple(chance.choice((0, 1, chance.randrange(-most, most + 1))) for _ in range(width))
        if rank(rows + [row]) > len(rows):
            rows.append(row)
    return rows


class FractionsTest(unittest.TestCase):

    def test_of_written_rows(self):
        steps = steps_of([(1, 2, 3), (1, 0, 1)])
        self.assertEqual(fractions_for(steps, (1, 2, 3)), [(1, 1), (0, 1)])
        self.assertEqual(fractions_for(steps, (2, 2, 4)), [(1, 1), (1, 1)])
        self.assertEqual(fractions_for(steps, (0, 1, 1)), [(1, 2), (-1, 2)])
        self.assertEqual(fractions_for(steps, (0, 0, 0)), [(0, 1), (0, 1)])
        self.assertIsNone(fractions_for(steps, (0, 1, 2)))
        self.assertEqual(fractions_for(steps_of([(-3,)]), (2,)), [(-2, 3)])

    def test_columns_that_begin_with_noughts(self):
        steps = steps_of([(0, 0, 5), (0, 3, 1), (7, 1, 1)])
        self.assertEqual(fractions_for(steps, (7, 4, 7)), [(1, 1), (1, 1), (1, 1)])
        self.assertEqual(columns_left(steps[:1], (0, 3, 1)), [1])
        self.assertEqual(columns_left(steps[:2], (0, 8, 9)), [])

    def test_random_rows(self):
        for seed in range(150):
            chance = random.Random(seed)
            width = chance.randrange(1, 8)
            rows = independent(chance, chance.randrange(1, width + 1), width, chance.choice((2, 9, 10 ** 6, 10 ** 400)))
            steps = steps_of(rows)
            weights = [Fraction(chance.randrange(-9, 10), chance.randrange(1, 9)) for _ in rows]
            made = [sum(weight * row[column] for weight, row in zip(weights, rows)) for column in range(width)]
            whole = 1
            for number in made:
                whole *= number.denominator
            row = tuple(int(number * whole) for number in made)
            due = [(weight * whole).as_integer_ratio() for weight in weights]
            self.assertEqual(fractions_for(steps, row), due)
            self.assertEqual(columns_left(steps, row), [])
            self.assertTrue(is_made_up(row, rows, due))
            other = tuple(chance.randrange(-9, 10) for _ in range(width))
            self.assertEqual(fractions_for(steps, other) is not None, rank(rows + [other]) == len(rows))
            self.assertEqual(columns_left(steps, other) == [], rank(rows + [other]) == len(rows))

    def test_is_made_up(self):
        rows = [(1, 2, 3), (1, 0, 1)]
        self.assertTrue(is_made_up((0, 1, 1), rows, [(1, 2), (-1, 2)]))
        self.assertTrue(is_made_up((0, 1, 1), rows, [(2, 4), (-3, 6)]))
        self.assertFalse(is_made_up((0, 1, 1), rows, [(1, 2), (1, 2)]))
        self.assertFalse(is_made_up((0, 1, 2), rows, [(1, 2), (-1, 2)]))
        self.assertFalse(is_made_up((1, 0, 0), [], []))
        self.assertTrue(is_made_up((0, 0), [], []))

    def test_lowest(self):
        for top, bottom, due in ((1, 2, (1, 2)), (2, 4, (1, 2)), (-2, 4, (-1, 2)), (2, -4, (-1, 2)), (-6, -4, (3, 2)),
                                 (0, 5, (0, 1)), (0, -5, (0, 1)), (6, 3, (2, 1)), (10 ** 60, -10 ** 59, (-10, 1))):
            self.assertEqual(lowest(top, bottom), due)

    def test_shared_divisor(self):
        for one, other, due in ((0, 0, 0), (0, 7, 7), (7, 0, 7), (12, 18, 6), (-12, 18, 6), (12, -18, 6), (1, 10, 1)):
            self.assertEqual(shared_divisor(one, other), due)

    def test_is_fraction(self):
        for pair in ((0, 1), (1, 1), (-1, 1), (1, 2), (-7, 10 ** 40)):
            self.assertIs(is_fraction(pair), True)
        for pair in ((0, 2), (2, 2), (2, 4), (1, 0), (0, 0), (1, -1), (0, -1), (-3, 6), (1, 1, 1), (1,), ()):
            self.assertIs(is_fraction(pair), False)


if __name__ == "__main__":
    unittest.main()
