"""Point 6: a formula reckoned, with a wheel and without one."""

import unittest

from boughworth.reckoning import reckoned
from examples import KINDS_OF_TWO, X, Y, chain, chain_to_the_right, expected, formulas_up_to, within

GREATEST_WHEEL = 10 ** 30


def num(n):
    return ("num", n)


class WithoutWheelTest(unittest.TestCase):

    def told(self, formula, told=None):
        return reckoned(formula, told or {}, 0)

    def test_num(self):
        for n in (-999999, -1, 0, 1, 999999):
            self.assertEqual(self.told(num(n)), n)

    def test_readings(self):
        told = {("own", "x"): 5, ("part", 0, "x"): -6, ("part", 1, "x"): 0, ("part", 2, "x"): 10 ** 40}
        for reading, number in told.items():
            self.assertEqual(self.told(reading, told), number)

    def test_each_kind_of_two(self):
        cases = {
            "plus": [(3, 4, 7), (3, -4, -1), (-3, -4, -7), (0, 0, 0)],
            "less": [(3, 4, -1), (4, 3, 1), (-3, -4, 1), (0, 7, -7)],
            "times": [(3, 4, 12), (-3, 4, -12), (-3, -4, 12), (0, -4, 0)],
            "least": [(3, 4, 3), (4, 3, 3), (-3, -4, -4), (-3, 0, -3), (5, 5, 5)],
            "most": [(3, 4, 4), (4, 3, 4), (-3, -4, -3), (-3, 0, 0), (5, 5, 5)],
        }
        self.assertEqual(sorted(cases), sorted(KINDS_OF_TWO))
        for kind, rows in cases.items():
            for first, second, number in rows:
                with self.subTest(kind=kind, first=first, second=second):
                    self.assertEqual(self.told((kind, num(first), num(second))), number)
                    self.assertEqual(self.told((kind, X, Y), {X: first, Y: second}), number)

    def test_when(self):
        for first, number in ((0, 5), (1, 6), (-1, 6), (999999, 6)):
            self.assertEqual(self.told(("when", num(first), num(5), num(6))), number)
            self.assertEqual(self.told(("when", X, num(5), num(6)), {X: first}), number)

    def test_within_one_another(self):
        formula = ("less", ("times", ("plus", X, num(2)), Y), ("when", ("less", X, Y), num(100), ("most", X, Y)))
        self.assertEqual(self.told(formula, {X: 3, Y: 7}), 28)
        self.assertEqual(self.told(formula, {X: 3, Y: 3}), -85)

    def test_numbers_of_four_thousand_figures(self):
        great, other = 10 ** 4000 - 1, -(10 ** 3999 + 7)
        told = {X: great, Y: other}
        self.assertEqual(self.told(("plus", X, Y), told), great + other)
        self.assertEqual(self.told(("less", X, Y), told), great - other)
        self.assertEqual(self.told(("times", X, Y), told), great * other)
        self.assertEqual(self.told(("least", X, Y), told), other)
        self.assertEqual(self.told(("most", X, Y), told), great)
        self.assertEqual(self.told(("when", ("less", X, X), Y, X), told), other)
        self.assertEqual(self.told(("when", X, Y, X), told), great)
        self.assertEqual(self.told(chain(15, "times", X), told), great ** 8)


class WithWheelTest(unittest.TestCase):

    def test_num_and_readings_by_their_rest(self):
        for wheel in (2, 3, 10, 999999, GREATEST_WHEEL - 1, GREATEST_WHEEL):
            for number in (0, 1, 2, -1, -2, 999999, -999999):
                with self.subTest(wheel=wheel, number=number):
                    rest = number % wheel
                    self.assertTrue(0 <= rest < wheel)
                    self.assertEqual(reckoned(num(number), {}, wheel), rest)
                    self.assertEqual(reckoned(X, {X: number}, wheel), rest)
                    self.assertEqual(reckoned(Y, {Y: number}, wheel), rest)

    def test_rests_as_figures_tell_them(self):
        self.assertEqual(reckoned(num(-1), {}, 2), 1)
        self.assertEqual(reckoned(num(-1), {}, GREATEST_WHEEL), 999999999999999999999999999999)
        self.assertEqual(reckoned(X, {X: 10 ** 30}, GREATEST_WHEEL), 0)
        self.assertEqual(reckoned(X, {X: 10 ** 30 + 5}, GREATEST_WHEEL), 5)
        self.assertEqual(reckoned(X, {X: -(10 ** 30) - 5}, GREATEST_WHEEL), 10 ** 30 - 5)
        self.assertEqual(reckoned(X, {X: 13}, 10), 3)

    def test_each_kind_of_two_with_the_least_wheel(self):
        tables = {
            "plus": (0, 1, 1, 0), "less": (0, 1, 1, 0), "times": (0, 0, 0, 1),
            "least": (0, 0, 0, 1), "most": (0, 1, 1, 1),
        }
        for kind, row in tables.items():
            for at, number in enumerate(row):
                for apart in (0, 2, -2, 10 ** 40):
                    told = {X: at // 2 + apart, Y: at % 2 - apart}
                    with self.subTest(kind=kind, told=told):
                        self.assertEqual(reckoned((kind, X, Y), told, 2), number)

    def test_each_kind_of_two_with_the_greatest_wheel(self):
        last = GREATEST_WHEEL - 1
        told = {X: last, Y: 2}
        numbers = {"plus": 1, "less": last - 2, "times": last - 1, "least": 2, "most": last}
        for kind, number in numbers.items():
            with self.subTest(kind=kind):
                self.assertEqual(reckoned((kind, X, Y), told, GREATEST_WHEEL), number)
        self.assertEqual(reckoned(("less", Y, X), told, GREATEST_WHEEL), 3)

    def test_least_and_most_are_of_rests(self):
        for first, second in ((num(-1), num(3)), (X, Y)):
            told = {X: -1, Y: 3}
            self.assertEqual(reckoned(("least", first, second), told, 10), 3)
            self.assertEqual(reckoned(("least", second, first), told, 10), 3)
            self.assertEqual(reckoned(("most", first, second), told, 10), 9)
            self.assertEqual(reckoned(("most", second, first), told, 10), 9)
        self.assertEqual(reckoned(("least", num(12), num(5)), {}, 10), 2)
        self.assertEqual(reckoned(("most", X, num(5)), {X: 12}, 10), 5)

    def test_first_of_a_when_may_be_0_by_its_rest_alone(self):
        for wheel in (2, 7, GREATEST_WHEEL):
            for many in (0, 1, -1, 5):
                formula = ("when", X, num(0), num(1))
                with self.subTest(wheel=wheel, many=many):
                    self.assertEqual(reckoned(formula, {X: many * wheel}, wheel), 0)
                    self.assertEqual(reckoned(formula, {X: many * wheel + 1}, wheel), 1)
        self.assertEqual(reckoned(("when", num(10), num(1), num(2)), {}, 5), 1)
        self.assertEqual(reckoned(("when", num(-10), num(1), num(2)), {}, 5), 1)
        self.assertEqual(reckoned(("when", num(11), num(1), num(2)), {}, 5), 2)
        self.assertEqual(reckoned(("when", ("plus", num(2), num(3)), num(1), num(2)), {}, 5), 1)
        self.assertEqual(reckoned(("when", ("times", num(2), num(3)), num(1), num(2)), {}, 6), 1)

    def test_when_tells_a_rest(self):
        self.assertEqual(reckoned(("when", num(0), num(-1), num(13)), {}, 10), 9)
        self.assertEqual(reckoned(("when", num(1), num(-1), num(13)), {}, 10), 3)

    def test_a_rest_from_0_on_behind_plus_less_and_times(self):
        self.assertEqual(reckoned(("plus", num(5), num(5)), {}, 7), 3)
        self.assertEqual(reckoned(("less", num(1), num(3)), {}, 7), 5)
        self.assertEqual(reckoned(("times", num(-2), num(3)), {}, 7), 1)
        self.assertEqual(reckoned(("least", ("less", num(1), num(3)), num(4)), {}, 7), 4)
        self.assertEqual(reckoned(("most", ("less", num(1), num(3)), num(4)), {}, 7), 5)
        self.assertEqual(reckoned(("most", ("times", num(5), num(3)), num(4)), {}, 7), 4)
        self.assertEqual(reckoned(("least", ("plus", num(5), num(5)), num(4)), {}, 7), 3)

    def test_numbers_of_four_thousand_figures(self):
        great, other = 10 ** 4000 - 1, -(10 ** 3999 + 7)
        told = {X: great, Y: other}
        for wheel in (2, 97, GREATEST_WHEEL):
            for kind in KINDS_OF_TWO:
                with self.subTest(wheel=wheel, kind=kind):
                    self.assertEqual(reckoned((kind, X, Y), told, wheel), expected((kind, X, Y), told, wheel))
            self.assertEqual(reckoned(chain(15, "times", X), told, wheel), pow(great, 8, wheel))
        self.assertEqual(reckoned(X, told, GREATEST_WHEEL), 10 ** 30 - 1)
        self.assertEqual(reckoned(Y, told, GREATEST_WHEEL), 10 ** 30 - 7)


class EitherTest(unittest.TestCase):

    def test_as_the_words_of_point_6_tell(self):
        leaves = [num(0), num(-3), num(8), X, Y]
        for formula in formulas_up_to(2, leaves):
            for told in ({X: 0, Y: 5}, {X: -4, Y: 4}, {X: 10 ** 31, Y: -1}):
                for wheel in (0, 2, 4, GREATEST_WHEEL):
                    self.assertEqual(reckoned(formula, told, wheel), expected(formula, told, wheel))

    def test_a_dict_with_more_readings_stays_as_it_was(self):
        told = {("part", k, a + b): k for k in range(3) for a in "abcdefghijklmnop" for b in "abcdefghijklmnopqrst"}
        told.update({X: 13, Y: -5})
        before = list(told.items())
        for wheel, number in ((0, 8), (10, 8), (2, 0)):
            self.assertEqual(reckoned(("plus", X, Y), told, wheel), number)
            self.assertEqual(list(told.items()), before)
        self.assertEqual(reckoned(num(4), told, 3), 1)
        self.assertEqual(list(told.items()), before)

    def test_what_is_done_to_the_dict_afterwards_counts_from_then_on(self):
        told = {X: 1}
        self.assertEqual(reckoned(X, told, 0), 1)
        told[X] = 2
        self.assertEqual(reckoned(X, told, 0), 2)

    def test_a_whole_number_is_told(self):
        for formula in (num(0), num(1), X, ("least", X, X), ("when", X, X, X), ("less", X, X)):
            for wheel in (0, 2):
                self.assertIs(reckoned(formula, {X: 1}, wheel).__class__, int)

    def test_formulas_of_four_hundred_tuples(self):
        self.assertEqual(reckoned(chain(399), {}, 0), 200)
        self.assertEqual(reckoned(chain(399), {}, 7), 200 % 7)
        self.assertEqual(reckoned(chain_to_the_right(399), {}, 0), 200)
        self.assertEqual(reckoned(chain(399, "less", X), {X: 3}, 0), 3 - 199 * 3)
        self.assertEqual(reckoned(chain(399, "less", X), {X: 3}, GREATEST_WHEEL), GREATEST_WHEEL + 3 - 199 * 3)
        self.assertEqual(reckoned(chain_to_the_right(399, "less", X), {X: 3}, 0), 0)
        self.assertEqual(reckoned(chain(400, "times", X), {X: 2}, 0), 2 ** 199)
        self.assertEqual(reckoned(chain(399, "times", X), {X: 10 ** 30 + 1}, 0), (10 ** 30 + 1) ** 200)

    def test_whens_a_hundred_within_one_another(self):
        formula = within(99, X, lambda inner: ("when", inner, num(1), num(0)))
        self.assertEqual(reckoned(formula, {X: 0}, 0), 1)
        self.assertEqual(reckoned(formula, {X: 4}, 0), 0)
        self.assertEqual(reckoned(formula, {X: 4}, 2), 1)


if __name__ == "__main__":
    unittest.main()
