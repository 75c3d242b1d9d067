"""Point 2: what a whole number and a word are."""

import unittest

from boughworth.kinds import is_whole, is_whole_within, is_word


class WholeTest(unittest.TestCase):

    def test_ints_are_whole_numbers(self):
        for thing in (0, 1, -1, 999999, 10 ** 5000, -10 ** 5000):
            self.assertIs(is_whole(thing), True)

    def test_truths_and_other_things_are_none(self):
        for thing in (True, False, None, "", "1", (), (1,), [], [1], {}, {1: 1}):
            with self.subTest(thing=thing):
                self.assertIs(is_whole(thing), False)

    def test_within_takes_both_ends(self):
        told = [is_whole_within(thing, -2, 1) for thing in (-3, -2, 0, 1, 2)]
        self.assertEqual(told, [False, True, True, True, False])

    def test_within_takes_no_truth_and_nothing_else(self):
        for thing in (True, False, None, "0", (0,), [0], {}):
            with self.subTest(thing=thing):
                self.assertIs(is_whole_within(thing, 0, 2), False)


class WordTest(unittest.TestCase):

    def test_words_of_one_to_eight_small_letters(self):
        for thing in ("a", "z", "m", "az", "abcdefgh", "ijklmnop", "qrstuvwx", "yzyzyzyz"):
            with self.subTest(thing=thing):
                self.assertIs(is_word(thing), True)

    def test_other_texts_are_none(self):
        for thing in ("", "abcdefghi", "A", "aB", "Za", "a1", "1", "a ", " a", " ", "a_b", "a.b", "-",
                      "a\n", "\na", "`", "{", "\u00e9", "\u03b1", "\u00df", "\u00aa", "a\x00", "z" * 4000):
            with self.subTest(thing=thing):
                self.assertIs(is_word(thing), False)

    def test_other_things_are_none(self):
        for thing in (None, True, 1, (), ("a",), [], ["a"], {}, {"a": "a"}):
            with self.subTest(thing=thing):
                self.assertIs(is_word(thing), False)


if __name__ == "__main__":
    unittest.main()
