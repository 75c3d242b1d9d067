"""Point 30: books written and read."""

import random
import re
import unittest

from boughworth.books import why_no_book
from boughworth.booktexts import read_book, show_book
from boughworth.errors import BoughError, NoBook, NoText
from boughworth.formulatexts import read_formula
from boughworth.straight import made_straight
from example_books import LEVEL_BOOK, ROW_BOOK, book_with, changed, full_book, own, part, sum_of
from example_plain import two_plain_books
from example_trees import long_book, random_book
from examples import ONE, chain, written

WORD = "[a-z]{1,8}"
SORT = re.compile(f"sort ({WORD}) down((?: {WORD}){{0,3}}) / up((?: {WORD}){{0,3}})")
FORM = re.compile(f"form ({WORD}) ({WORD}) of((?: {WORD}){{0,3}})")
RULE = re.compile(rf"(up|[012])\.({WORD}) = (.*)")

SMALL = (
    12,
    (("s", ("d",), ("u",)), ("t", (), ())),
    (
        ("f", "s", ("s", "t"), ((-1, "u", ("plus", part(0, "u"), own("d"))), (0, "d", ("num", -7)))),
        ("g", "s", (), ((-1, "u", ("when", own("d"), ONE, ("num", 20))),)),
        ("h", "t", (), ()),
    ),
)
SMALL_TEXT = """wheel 12
sort s down d / up u
sort t down / up
form f s of s t
up.u = (0.u + own.d)
0.d = -7
form g s of
up.u = (own.d ? 1 : 20)
form h t of"""


def written_by_the_words(book):
    lines = [f"wheel {book[0]}"]
    for name, downs, ups in book[1]:
        lines.append(f"sort {name} down" + "".join(f" {one}" for one in downs) + " / up" + "".join(f" {one}" for one in ups))
    for name, sort, parts, rules in book[2]:
        lines.append(f"form {name} {sort} of" + "".join(f" {one}" for one in parts))
        for at, word, formula in rules:
            lines.append(f"{'up' if at == -1 else at}.{word} = {written(formula)}")
    return "\n".join(lines)


def read_by_the_words(text):
    """The book, or the refusal that is due, as NoText or ("NoBook", fault)."""
    lines = text.split("\n")
    wheel = re.fullmatch("wheel (0|[1-9][0-9]{0,40})", lines.pop(0))
    if wheel is None or int(wheel[1]) == 1 or int(wheel[1]) > 10 ** 30:
        return "NoText"
    sorts, forms = [], []
    while lines and SORT.fullmatch(lines[0]):
        found = SORT.fullmatch(lines.pop(0))
        sorts.append((found[1], tuple(found[2].split()), tuple(found[3].split())))
    while lines and FORM.fullmatch(lines[0]):
        found = FORM.fullmatch(lines.pop(0))
        rules = []
        while lines and RULE.fullmatch(lines[0]):
            rule = RULE.fullmatch(lines.pop(0))
            try:
                rules.append((-1 if rule[1] == "up" else int(rule[1]), rule[2], read_formula(rule[3])))
            except NoText:
                return "NoText"
        forms.append((found[1], found[2], tuple(found[3].split()), tuple(rules)))
    if lines or not 1 <= len(sorts) <= 4 or not 1 <= len(forms) <= 10:
        return "NoText"
    book = (int(wheel[1]), tuple(sorts), tuple(forms))
    fault = why_no_book(book)
    return book if fault is None else ("NoBook", fault)


def told(text):
    """What the program tells, in the same form."""
    try:
        return read_book(text)
    except NoText:
        return "NoText"
    except NoBook as refusal:
        return "NoBook", refusal.fault


class ShowTest(unittest.TestCase):

    def test_of_a_small_book(self):
        self.assertEqual(show_book(SMALL), SMALL_TEXT)
        self.assertEqual(read_book(SMALL_TEXT), SMALL)

    def both_ways(self, book):
        text = show_book(book)
        self.assertIsInstance(text, str)
        self.assertEqual(text, written_by_the_words(book))
        read = read_book(text)
        self.assertEqual(read, book)
        self.assertIsNone(why_no_book(read))
        self.assertEqual(show_book(read), text)

    def test_written_and_read_again(self):
        for book in (LEVEL_BOOK, ROW_BOOK, full_book(), full_book(2), long_book(), SMALL):
            self.both_ways(book)

    def test_random_books(self):
        for seed in range(120):
            self.both_ways(random_book(seed))
            for book in two_plain_books(seed):
                self.both_ways(book)

    def test_without_downs_ups_and_parts(self):
        book = (0, (("a", (), ()),), (("f", "a", (), ()),))
        self.assertEqual(show_book(book), "wheel 0\nsort a down / up\nform f a of")
        self.both_ways(book)

    def test_names_like_the_words_of_a_line(self):
        words = ("wheel", "sort", "down", "up", "form", "of", "own", "min", "max")
        sorts = (("sort", ("down", "up", "of"), ("own", "wheel", "form")), ("up", ("up",), ("down",)), ("of", (), ("up",)))
        heads = (("form", "sort", ("up", "of", "sort")), ("of", "of", ()), ("up", "up", ("of",)), ("wheel", "sort", ()))
        self.both_ways(book_with(5, sorts, heads, lambda bare, form, key: own(key[1]) if key[0] == -1 else ONE))
        for word in words:
            self.both_ways((3, ((word, (), (word,)),), ((word, word, (), ((-1, word, own(word)),)),)))

    def test_wheels(self):
        for wheel in (0, 2, 3, 10, 999999, 1000000, 10 ** 29, 10 ** 30 - 1, 10 ** 30):
            self.both_ways((wheel,) + SMALL[1:] if wheel else LEVEL_BOOK)

    def test_formulas_of_fifteen_tuples_and_more(self):
        for size in (13, 14, 15):
            self.both_ways(changed(SMALL, (2, 1, 3, 0, 2), chain(size)))
        text = SMALL_TEXT.replace("(own.d ? 1 : 20)", written(chain(16)))
        self.assertEqual(told(text), "NoText")

    def test_of_books_made_straight(self):
        """Written like any other one; read only where no formula has more than fifteen tuples."""
        sorts = (("s", ("d",), ("u", "v")),)
        rules = {"u": sum_of([own("d")] * 8), "v": ("plus", own("u"), own("u"))}
        book = book_with(9, sorts, (("g", "s", ()),), lambda bare, form, key: rules[key[1]])
        made = made_straight(book)
        self.assertEqual(show_book(made), written_by_the_words(made))
        self.assertEqual(told(show_book(made)), "NoText")
        self.both_ways(made_straight(ROW_BOOK))


class ReadTest(unittest.TestCase):

    def looked_at(self, text, due=None):
        answer = read_by_the_words(text)
        if due is not None:
            self.assertEqual(answer, due, text)
        with self.subTest(text=text):
            self.assertEqual(told(text), answer)
        return answer

    def test_refusals(self):
        for wider in (NoText, BoughError, ValueError):
            with self.assertRaises(wider):
                read_book("")
        for wider in (NoBook, BoughError, ValueError):
            with self.assertRaises(wider) as caught:
                read_book(SMALL_TEXT.replace("sort t", "sort s"))
        self.assertEqual(caught.exception.fault, "names")

    def test_odd_texts(self):
        for text in ("", "\n", " ", "wheel", "wheel ", "wheel 0", "wheel 0\n", "wheel 2\nsort a down / up", "sort", "form",
                     "wheel 0\nsort", "wheel 0\nform", "wheel 0\nsort a", "wheel 0\nsort a /", "wheel 0\nsort / up",
                     "wheel 0\nform f", "wheel 0\nform f a", "wheel 0\nform f a of", "wheel 0\nup.x = 1", "up.x = 1",
                     "wheel 0\nsort a down / up\nform f a", "wheel 0\nsort a down / up\nform f", "wheel 0\nsort a down up",
                     "wheel 0\nsort a down / up\nform", "wheel 0\nsort a down / up\nform f a of\n\n", "~" * 4000, "(" * 4000,
                     "wheel 0\n/", "wheel 0\nsort /", "wheel 0\nsort / / /", "wheel 0\nsort a down / / up\nform f a of",
                     "wheel 0\nsort a down / up / up\nform f a of", "\n" * 4000, " " * 4000, "book a", "/", "wheel wheel",
                     "wheel 0\nsort a down / up\nform f a of\n=", "wheel 0\nsort a down / up\nform f a of\n. = 1"):
            self.looked_at(text, "NoText")

    def test_wheels(self):
        for figures in ("1", "01", "00", "012", "-0", "-1", "-12", "+12", "12.0", "1 2", "", " 12", "12 ", "x", "1e3", "1_0",
                        str(10 ** 30 + 1), str(10 ** 31), "9" * 31, "9" * 5000, "0" * 40, "-" + "9" * 31):
            self.looked_at(SMALL_TEXT.replace("wheel 12", "wheel " + figures), "NoText")
        for figures in ("2", "10", str(10 ** 30)):
            self.looked_at(SMALL_TEXT.replace("wheel 12", "wheel " + figures), (int(figures),) + SMALL[1:])
        self.looked_at(SMALL_TEXT.replace("wheel 12", "wheel 0"), ("NoBook", "wheel"))

    def test_lines_left_out_twice_and_in_another_order(self):
        seen = set()
        for text in (SMALL_TEXT, show_book(ROW_BOOK), show_book(LEVEL_BOOK)):
            lines = text.split("\n")
            for k in range(len(lines)):
                for bent in (lines[:k] + lines[k + 1:], lines[:k] + [lines[k]] + lines[k:], lines[k:] + lines[:k],
                             lines[:k] + [""] + lines[k:], lines[:k] + lines[k:k + 2][::-1] + lines[k + 2:],
                             lines[:k] + lines[k:][::-1]):
                    seen.add(str(self.looked_at("\n".join(bent)))[:20])
        for due in ("NoText", "('NoBook', 'rules')", "('NoBook', 'names')"):
            self.assertIn(due[:20], seen)

    def test_line_ends_at_the_end_and_ahead(self):
        for text in (SMALL_TEXT + "\n", "\n" + SMALL_TEXT, SMALL_TEXT + "\n\n", SMALL_TEXT.replace("\n", "\n\n"),
                     SMALL_TEXT.replace("\n", " "), SMALL_TEXT.replace("\n", "")):
            self.looked_at(text, "NoText")

    def test_bent_at_every_place(self):
        seen = {}
        for k in range(len(SMALL_TEXT) + 1):
            head, sign, rest = SMALL_TEXT[:k], SMALL_TEXT[k:k + 1], SMALL_TEXT[k + 1:]
            for put in ("", sign + sign, sign.upper(), "A", "a", "0", "1", "/", " ", "\n", ".", "~", "=", "-", "d", "u"):
                answer = self.looked_at(head + put + rest)
                seen[str(answer)] = seen.get(str(answer), 0) + 1
            for put in (" ", "0", "/", "\n", "x", "%"):
                self.looked_at(head + put + sign + rest)
        for fault in ("names", "rules", "formula"):
            self.assertIn(str(("NoBook", fault)), seen)

    def test_bent_at_random(self):
        chance = random.Random(8)
        texts = [show_book(random_book(seed)) for seed in range(12)]
        for text in texts:
            for _ in range(60):
                bent = text
                for _ in range(chance.randrange(1, 3)):
                    k = chance.randrange(len(bent))
                    if chance.random() < 0.5:
                        bent = bent[:k] + chance.choice(" /.=()x0u\n-") + bent[k + chance.randrange(2):]
                    else:
                        lines = bent.split("\n")
                        chance.shuffle(lines) if chance.random() < 0.2 else lines.insert(k % len(lines), chance.choice(lines))
                        bent = "\n".join(lines)
                self.looked_at(bent)

    def test_numbers_of_things(self):
        """What 8 bounds is no shape beyond it: NoText."""
        self.looked_at(SMALL_TEXT.replace("sort t down / up", "sort t down a b c / up e f g"), ("NoBook", "rules"))
        self.looked_at(SMALL_TEXT.replace("sort t down / up", "sort t down / up e f g h"), "NoText")
        self.looked_at(SMALL_TEXT.replace("sort t down / up", "sort t down a b c d / up"), "NoText")
        four = "sort t down / up\nsort v down / up\nsort w down / up"
        self.looked_at(SMALL_TEXT.replace("sort t down / up", four), SMALL[:1] + (SMALL[1] + (("v", (), ()), ("w", (), ())),)
                       + SMALL[2:])
        self.looked_at(SMALL_TEXT.replace("sort t down / up", four + "\nsort x down / up"), "NoText")
        self.looked_at(SMALL_TEXT.replace("of s t", "of s t t"), changed(SMALL, (2, 0, 2), ("s", "t", "t")))
        self.looked_at(SMALL_TEXT.replace("of s t", "of s t t t"), "NoText")
        more = "".join(f"\nform {name} t of" for name in "ijklmno")
        self.assertEqual(len(self.looked_at(SMALL_TEXT + more)[2]), 10)
        self.looked_at(SMALL_TEXT + more + "\nform p t of", "NoText")

    def test_words(self):
        for old, new, due in (("sort s", "sort S", "NoText"), ("sort s", "sort abcdefghi", "NoText"), ("up u", "up u1", "NoText"),
                              ("down d", "down d_", "NoText"), ("form f", "form ff", None), ("form h t", "form h w", None),
                              ("0.d =", "3.d =", "NoText"), ("0.d =", "-1.d =", "NoText"), ("0.d =", "00.d =", "NoText"),
                              ("0.d =", "1.d =", ("NoBook", "rules")), ("0.d =", "2.d =", ("NoBook", "rules")),
                              ("0.d =", "up.d =", ("NoBook", "rules")), ("0.d =", "own.d =", "NoText"),
                              ("0.d =", "0.d  =", "NoText"), ("0.d =", "0.d=", "NoText"), ("0.d =", "0.D =", "NoText"),
                              ("0.d =", "0.d.d =", "NoText"), ("0.d =", "0d =", "NoText"), ("0.d =", ".d =", "NoText"),
                              ("= -7", "= -07", "NoText"), ("= -7", "= 1000000", "NoText"), ("= -7", "= ", "NoText"),
                              ("= -7", "= 0.z", ("NoBook", "formula")), ("= -7", "= 2.u", ("NoBook", "formula")),
                              ("= -7", "= (0.u + 1) ", "NoText"), ("= -7", "= = -7", "NoText"), ("= -7", "= 1 = 1", "NoText")):
            self.looked_at(SMALL_TEXT.replace(old, new), due)

    def test_faults_in_their_order(self):
        """names ahead of rules ahead of formula ahead of wheel."""
        text = SMALL_TEXT.replace("wheel 12", "wheel 0")
        self.looked_at(text, ("NoBook", "wheel"))
        text = text.replace("own.d ?", "own.z ?")
        self.looked_at(text, ("NoBook", "formula"))
        text = text.replace("0.d = -7\n", "")
        self.looked_at(text, ("NoBook", "rules"))
        text = text.replace("form h", "form g")
        self.looked_at(text, ("NoBook", "names"))
        self.looked_at(text.replace("wheel 0", "wheel 1"), "NoText")

    def test_many_rules(self):
        self.looked_at(SMALL_TEXT + "\nup.x = 1" * 2000, ("NoBook", "rules"))
        self.looked_at(SMALL_TEXT + "\nup.x = 1" * 2000 + "\nup.x = 1 ", "NoText")


if __name__ == "__main__":
    unittest.main()
