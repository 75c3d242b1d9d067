"""Point 7: formulas written, and texts read."""

import unittest

from boughworth.errors import BoughError, NoText
from boughworth.formulas import is_formula
from boughworth.formulatexts import read_formula, show_formula
from examples import (
    KINDS_OF_TWO, ONE, X, chain, chain_to_the_right, formulas_up_to, within, written,
)

PAIRS = [
    (("num", 7), "7"),
    (("own", "x"), "own.x"),
    (("part", 0, "x"), "0.x"),
    (("part", 1, "abcdefgh"), "1.abcdefgh"),
    (("part", 2, "z"), "2.z"),
    (("plus", ("own", "x"), ("num", 1)), "(own.x + 1)"),
    (("less", ("num", -1), ("num", -2)), "(-1 - -2)"),
    (("times", ("part", 0, "y"), ("own", "x")), "(0.y * own.x)"),
    (("least", ("num", 3), ("part", 2, "y")), "(3 min 2.y)"),
    (("most", ("num", 0), ("num", 0)), "(0 max 0)"),
    (("when", ("own", "x"), ("num", 5), ("part", 1, "y")), "(own.x ? 5 : 1.y)"),
    (("plus", ("plus", ("num", 1), ("num", 2)), ("num", 3)), "((1 + 2) + 3)"),
    (("plus", ("num", 1), ("plus", ("num", 2), ("num", 3))), "(1 + (2 + 3))"),
    (("when", ("less", X, ONE), ("times", X, X), ("when", ONE, X, ONE)),
     "((own.x - 1) ? (own.x * own.x) : (1 ? own.x : 1))"),
    (("least", ("most", ("num", -999999), ("own", "min")), ("part", 2, "max")), "((-999999 max own.min) min 2.max)"),
]
TEXTS = [text for formula, text in PAIRS]
WORDS_OF_TEXTS = ("own", "min", "max", "of", "num", "part", "when", "a", "z", "abcdefgh")

NO_NUMBERS = [
    "-0", "00", "01", "007", "-01", "-00", "0000000", "+0", "+1", "+999999", "1000000", "-1000000", "9999999",
    "0999999", "-0999999", "12345678901234567890", "-", "--1", "- 1", "1-", "1.0", "1.", ".1", "1,000", "1_0", "0x1",
    "1e3", "1a", "a1", "\u0663", "\u00b2", "\uff11", "1\n", "\n1", "1\t", " 1", "1 ", "-\u0663",
]
NO_READINGS = [
    "own", "own.", ".x", ".", "own..x", "own.x.", "own.x.y", "own x", "own .x", "own. x", "Own.x", "OWN.x", "own.X",
    "own.aB", "own.x1", "own.1", "own.-", "own.abcdefghi", "own.x_", "own.\u00e9", "own.x\n", "own.x\t", "owns.x",
    "x", "0.", "0.X", "0.abcdefghi", "0.x1", "0.x.y", "0..x", "0 .x", "0. x", "3.x", "9.x", "10.x", "-1.x", "-0.x",
    "00.x", "01.x", "+1.x", "k.x", "0.0", "0.\u00e9", "\u0660.x", "1,x", "part.0.x", "part.x", "num.1", "(own.x)",
    "0.x y", "1x", "own.own.own", "0.0.x",
]
NO_BRACKETS = [
    "(", ")", "()", ")(", "(())", "( )", "(1)", "((1))", "(own.x)", "1 + 2", "(1 + 2", "1 + 2)", "(1 + 2))", "((1 + 2)",
    "((1 + 2))", "(1 + )", "( + 1)", "(1 +)", "(+ 1)", "(+)", "(1 1)", "(1 2 3)", "(1 + + 2)", "(1 + 2 + 3)",
    "(1 + 2 3)", "(1 + 2)(3 + 4)", "(1 + 2) + 3", "3 + (1 + 2)", "(1 + 2) 3", "(1 + 2) ", " (1 + 2)", "(1 + 2)\n",
    "(1\n+ 2)", "(1\t+ 2)", "[1 + 2]", "{1 + 2}", "(1 / 2)", "(1 // 2)", "(1 ** 2)", "(1 ^ 2)", "(1 = 2)", "(1 , 2)",
    "(1, 2)", "(1 plus 2)", "(1 less 2)", "(1 times 2)", "(1 least 2)", "(1 most 2)", "(1 Min 2)", "(1 MAX 2)",
    "(1 minmax 2)", "(min 1 2)", "min(1, 2)", "(1 ? 2)", "(1 : 2)", "(1 ? 2 :)", "(1 ? 2 : )", "(? 2 : 3)",
    "(1 ? : 3)", "(1 : 2 ? 3)", "(1 ? 2 ? 3)", "(1 : 2 : 3)", "(1 ? 2 + 3)", "(1 + 2 : 3)", "(1 + 2 ? 3 : 4)",
    "(1 ? 2 : 3 : 4)", "(1 ? 2 : 3 ? 4 : 5)", "(1 when 2 : 3)", "(1 ? 2 : 3", "1 ? 2 : 3", "(1 ?2 : 3)", "(1? 2 : 3)",
    "(+ + +)", "(1 + min)", "(min + 1)", "(? ? ? : ?)", "(1 + ()", "(1 + ())", "(() + 1)", "(1 + (2)", "(1 + (2))",
    "((1) + 2)", "(1 (+) 2)", "(1 + 2)1", "1(1 + 2)", "(1 + 2)own.x", "own.x(1 + 2)", "own.(x)", "own(.x + 1)",
    "(-(1) + 2)", "-(1 + 2)", "(1 + own)", "(own + 1)", "(1 - -0)", "(1 + 01)", "(1 + 3.x)", "(1 + 1000000)",
]


class ShowTest(unittest.TestCase):

    def test_each_kind(self):
        for formula, text in PAIRS:
            with self.subTest(text=text):
                self.assertEqual(show_formula(formula), text)

    def test_numbers(self):
        for n, text in (
            (0, "0"), (1, "1"), (-1, "-1"), (10, "10"), (-10, "-10"), (100000, "100000"), (-100000, "-100000"),
            (999999, "999999"), (-999999, "-999999"),
        ):
            self.assertEqual(show_formula(("num", n)), text)
            self.assertEqual(show_formula(("less", ("num", n), ("num", n))), f"({text} - {text})")

    def test_words_that_texts_are_written_with(self):
        for word in WORDS_OF_TEXTS:
            self.assertEqual(show_formula(("own", word)), "own." + word)
            for k in range(3):
                self.assertEqual(show_formula(("part", k, word)), f"{k}.{word}")

    def test_as_the_words_of_point_7_tell(self):
        for formula in formulas_up_to(2, [("num", 0), ("num", -3), X, ("part", 1, "min")]):
            self.assertEqual(show_formula(formula), written(formula))

    def test_formulas_of_four_hundred_tuples(self):
        for formula in (
            chain(16), chain(17), chain(399), chain(400), chain(399, "most", X), chain_to_the_right(399, "less", X),
            within(99, X, lambda inner: ("when", inner, ONE, X)), within(99, X, lambda inner: ("when", ONE, X, inner)),
            within(7, X, lambda inner: ("times", inner, inner)),
        ):
            self.assertEqual(show_formula(formula), written(formula))
        self.assertEqual(show_formula(chain(399)), "(" * 199 + "1" + " + 1)" * 199)


class ReadTest(unittest.TestCase):

    def refused(self, text):
        with self.assertRaises(NoText, msg=text):
            read_formula(text)

    def refused_or_written_so(self, text):
        """Whatever is read is a formula, and is written by just that text."""
        try:
            formula = read_formula(text)
        except NoText:
            return
        self.assertTrue(is_formula(formula), text)
        self.assertEqual(written(formula), text)

    def test_each_kind(self):
        for formula, text in PAIRS:
            with self.subTest(text=text):
                self.assertEqual(read_formula(text), formula)

    def test_numbers(self):
        for n in (0, 1, -1, 9, 10, -10, 99, 100, 123456, -123456, 999999, -999999):
            told = read_formula(str(n))
            self.assertEqual(told, ("num", n))
            self.assertIs(told[1].__class__, int)
            self.assertEqual(read_formula(f"({n} - {n})"), ("less", ("num", n), ("num", n)))

    def test_words_that_texts_are_written_with(self):
        for word in WORDS_OF_TEXTS:
            self.assertEqual(read_formula("own." + word), ("own", word))
            for k in range(3):
                self.assertEqual(read_formula(f"{k}.{word}"), ("part", k, word))
            text = f"(own.{word} min (0.{word} max 2.{word}))"
            formula = ("least", ("own", word), ("most", ("part", 0, word), ("part", 2, word)))
            self.assertEqual(read_formula(text), formula)

    def test_read_again_to_the_same_tuples(self):
        count = 0
        for formula in formulas_up_to(2, [("num", 0), ("num", -3), X, ("part", 1, "min")]):
            if is_formula(formula):
                count += 1
                self.assertEqual(read_formula(show_formula(formula)), formula)
        self.assertGreater(count, 500)

    def test_fifteen_tuples_are_taken_and_sixteen_or_seventeen_refused(self):
        for kind in KINDS_OF_TWO:
            for leaf in (ONE, X, ("num", -999999), ("part", 2, "abcdefgh")):
                for formula in (chain(14, kind, leaf), chain(15, kind, leaf), chain_to_the_right(15, kind, leaf)):
                    self.assertEqual(read_formula(written(formula)), formula)
                for formula in (chain(16, kind, leaf), chain(17, kind, leaf), chain_to_the_right(17, kind, leaf)):
                    self.refused(written(formula))
        self.assertEqual(read_formula(written(("when", ONE, ONE, chain(12)))), ("when", ONE, ONE, chain(12)))
        self.refused(written(("when", ONE, ONE, chain(13))))
        self.refused(written(("when", chain(5), chain(5), chain(6))))

    def test_formulas_of_books_made_straight_are_held_to_fifteen_too(self):
        for size in (31, 399, 400):
            self.refused(show_formula(chain(size)))

    def test_no_numbers(self):
        for text in NO_NUMBERS:
            with self.subTest(text=text):
                self.refused(text)
                self.refused(f"({text} + 1)")
                self.refused(f"(1 + {text})")
                self.refused(f"(1 ? 2 : {text})")

    def test_no_readings(self):
        for text in NO_READINGS:
            with self.subTest(text=text):
                self.refused(text)
                self.refused(f"({text} + 1)")
                self.refused(f"(1 * {text})")
                self.refused(f"({text} ? 1 : 2)")

    def test_no_brackets(self):
        for text in NO_BRACKETS:
            with self.subTest(text=text):
                self.refused(text)
                self.refused(f"({text} + 1)")
                self.refused(f"(1 max {text})")

    def test_an_empty_text_and_blanks(self):
        for text in ("", " ", "  ", "\n", "\t", "\n\n"):
            self.refused(text)

    def test_marks_by_themselves(self):
        for text in ("+", "-", "*", "?", ":", "min", "max", "own", ".", "? :", "+ +", "%"):
            self.refused(text)

    def test_a_blank_more_at_every_place(self):
        for text in TEXTS:
            for at in range(len(text) + 1):
                for blank in (" ", "\n", "\t"):
                    self.refused(text[:at] + blank + text[at:])

    def test_a_blank_fewer_or_another_one_at_every_place(self):
        for text in TEXTS:
            for at, sign in enumerate(text):
                if sign == " ":
                    self.refused(text[:at] + text[at + 1:])
                    self.refused(text[:at] + "\n" + text[at + 1:])
                    self.refused(text[:at] + "_" + text[at + 1:])

    def test_a_bracket_more_or_fewer_at_every_place(self):
        for text in TEXTS:
            for at in range(len(text) + 1):
                self.refused(text[:at] + "(" + text[at:])
                self.refused(text[:at] + ")" + text[at:])
                self.refused(text[:at] + "()" + text[at:])
                if text[at:at + 1] in ("(", ")"):
                    self.refused(text[:at] + text[at + 1:])

    def test_text_behind_the_end(self):
        for text in TEXTS:
            for more in (" ", "\n", ")", " 1", " + 1", " own.x", "(1 + 2)", " (1 + 2)", ".", ".x", "%", "X"):
                self.refused(text + more)

    def test_each_sign_more_fewer_or_otherwise_at_every_place(self):
        signs = " ()+-*?:.,019axzAZ%_~\n"
        for text in TEXTS:
            for at in range(len(text) + 1):
                self.refused_or_written_so(text[:at] + text[at + 1:])
                for sign in signs:
                    self.refused_or_written_so(text[:at] + sign + text[at:])
                    self.refused_or_written_so(text[:at] + sign + text[at + 1:])

    def test_words_put_together_in_every_way(self):
        words = ["(", ")", "1", "own.x", "+", "?", ":", " "]
        texts = [""]
        for _ in range(5):
            texts = [text + word for text in texts for word in words]
            for text in texts[::7]:
                self.refused_or_written_so(text)

    def test_many_brackets_within_one_another(self):
        for depth in (8, 16, 199, 600, 2000):
            for text in (
                "(" * depth + "1" + ")" * depth,
                "(" * depth + "1" + " + 1)" * depth,
                "(1 + " * depth + "1" + ")" * depth,
                "(" * depth + "1" + " ? 1 : 1)" * depth,
                "()" * depth,
                "(" * depth, ")" * depth, "(" * depth + ")" * depth, ")" * depth + "(" * depth,
            ):
                self.refused(text)

    def test_texts_of_four_thousand_signs(self):
        for word in (
            "1", "0", "-", "+", "x", " ", "\n", "(", ")", ".", "own.", "own.x ", "0.x ", "1 + ", "(1 + 2)", "( ", " )",
            "(1 + ", "1)", "1 ? 2 : ", "own", "9", "~", "? ", "min ",
        ):
            text = (word * 4000)[:4000]
            self.refused(text)
            self.refused("(1 + " + text[:3994] + ")")
            self.refused("own." + text[:3996])
            self.refused("0." + text[:3998])
            self.refused("-" + text[:3999])

    def test_the_refusal_is_taken_by_wider_names(self):
        for wider in (BoughError, ValueError):
            with self.assertRaises(wider):
                read_formula("3.x")


if __name__ == "__main__":
    unittest.main()
