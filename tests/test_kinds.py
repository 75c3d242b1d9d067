"""Point 2: what a whole number and a word are."""

import unittest

from boughworth.kinds import is_whole, is_whole_within, is_word, writes_whole


class WholeTest(unittest.TestCase):

    def test_ints_are_whole_numbers(self):
        for thing in (0, 1, -1, 999999, 10 ** 5000, -10 ** 5000):
            self.assertIs(is_whole(thing), True)

    def test_truths_and_other_things_are_none(self):
        for thing in (True, False, None, "", "1", (), (1,), [], [1], {}, {1: 1}):
            with self.subTest(thing=thing):
                self.assertIs(is_whole(thing), False)

    def test_within_takes_both_ends(self):
        told = [is_whole_within(thing, -2, 1) for thing in (-3, -2, 0, 1, 2)]
        self.assertEqual(told, [False, True, True, True, False])

    def test_within_takes_no_truth_and_nothing_else(self):
        for thing in (True, False, None, "0", (0,), [0], {}):
            with self.subTest(thing=thing):
                self.assertIs(is_whole_within(thing, 0, 2), False)


class WordTest(unittest.TestCase):

    def test_words_of_one_to_eight_small_letters(self):
        for thing in ("a", "z", "m", "az", "abcdefgh", "ijklmnop", "qrstuvwx", "yzyzyzyz"):
            with self.subTest(thing=thing):
                self.assertIs(is_word(thing), True)

    def test_other_texts_are_none(self):
        for thing in ("", "abcdefghi", "A", "aB", "Za", "a1", "1", "a ", " a", " ", "a_b", "a.b", "-",
                      "a\n", "\na", "`", "{", "\u00e9", "\u03b1", "\u00df", "\u00aa", "a\x00", "z" * 4000):
            with self.subTest(thing=thing):
                self.assertIs(is_word(thing), False)

    def test_other_things_are_none(self):
        for thing in (None, True, 1, (), ("a",), [], ["a"], {}, {"a": "a"}):
            with self.subTest(thing=thing):
                self.assertIs(is_word(thing), False)


class WritesWholeTest(unittest.TestCase):

    def test_numbers(self):
        for number in (0, 7, 10, 999, -1, -10, -999):
            self.assertIs(writes_whole(str(number), 3), True)

    def test_figures_are_counted_without_the_sign(self):
        for text, due in (("1000", False), ("-1000", False), ("-999", True), ("9" * 30, False), ("9" * 5000, False)):
            self.assertIs(writes_whole(text, 3), due)
        self.assertIs(writes_whole("9" * 30, 30), True)
        self.assertIs(writes_whole("-" + "9" * 31, 30), False)

    def test_other_texts(self):
        for text in ("", "-", "+1", "01", "-0", "00", "-01", "1 ", " 1", "1\n", "1_0", "1.", "x", "--1", "1-", "\u0661",
                     "\u00b2", "0x1", "- 1"):
            with self.subTest(text=text):
                self.assertIs(writes_whole(text, 9), False)


if __name__ == "__main__":
    unittest.main()
