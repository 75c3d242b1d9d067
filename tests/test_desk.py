"""Point 31: the desk."""

import random
import re
import unittest

from boughworth.booktexts import show_book
from boughworth.desk import Desk
from boughworth.errors import (
    BoughError, NoBook, NoBuild, NoChange, NoFit, NoGiven, NoName, NoPlace, NoPlain, NoPrice, NoRow, NoSpot, NoText, NoTree,
    NoWorth, Ring, Tangled, TooGreat,
)
from boughworth.passes import passes_of
from boughworth.safety import order_for_all
from boughworth.straight import made_straight
from boughworth.treetexts import show_tree
from example_books import ROW_BOOK, all_spots, book_with, changed, own, part, sum_of
from example_trees import all_reads, is_order_by_the_words, is_ring_by_the_words, long_book, tower
from examples import ONE

# Along the row each cell is told where it stands, and tells what it is worth.
ROWS = """wheel 1000
sort row down from / up to sum
sort cell down at / up val
form none row of
up.to = own.from
up.sum = 0
form some row of cell row
up.to = 1.to
up.sum = (0.val + 1.sum)
0.at = own.from
1.from = (own.from + 1)
form same cell of
up.val = own.at
form twice cell of
up.val = (own.at * 2)"""

# By bend the part's d waits for its v; by loop v waits for d.
RINGS = """wheel 7
sort s down d / up u v
form bend s of s
up.u = 0.u
up.v = 0.v
0.d = 0.v
form loop s of
up.u = own.d
up.v = own.d
form end s of
up.u = own.d
up.v = 1"""

PLAIN = """wheel 0
sort s down / up x n
form leaf s of
up.x = 3
up.n = 1
form join s of s s
up.x = ((0.x + 1.x) + 2)
up.n = ((0.n + 1.n) + 1)"""

LEAF, TWO = "some(same, none)", "some(same, some(twice, none))"


class DeskCase(unittest.TestCase):

    def setUp(self):
        self.desk = Desk()

    def says(self, row, due):
        with self.subTest(row=row):
            answer = self.desk.say(row)
            self.assertIsInstance(answer, str)
            self.assertEqual(answer, due)

    def refuses(self, row, refusal, field=None):
        with self.subTest(row=row):
            for wider in (refusal, BoughError):
                with self.assertRaises(wider) as caught:
                    self.desk.say(row)
                self.assertIs(type(caught.exception), refusal)
            return caught.exception

    def laid(self):
        """A desk with some of each kind on it."""
        self.says("book b\n" + ROWS, "ok")
        self.says("book rings\n" + RINGS, "ok")
        self.says("book plain\n" + PLAIN, "ok")
        self.says("tree t b " + TWO, "ok")
        self.says("tree r rings bend(loop)", "ok")
        self.says("tree e rings bend(end)", "ok")
        self.says("tree p plain join(leaf, leaf)", "ok")
        self.says("keep k t from=4", "ok")


class AnswerTest(DeskCase):

    def test_worth(self):
        self.laid()
        for row, due in (("worth t top sum from=4", "14"), ("worth t top to from=4", "6"), ("worth t 0 at from=998", "998"),
                         ("worth t 1.1 from from=998", "0"), ("worth t 1.0 val from=999", "0"), ("worth t top from from=-1", "999"),
                         ("worth t top from from=999999999999999999999999999999", "999"), ("worth p top x", "8"),
                         ("worth p 0 n", "1"), ("worth r top d d=3", "3"), ("worth e 0 d d=0", "1")):
            self.says(row, due)
        self.refuses("worth t top sum", NoGiven)
        self.refuses("worth t top sum from=4 to=1", NoGiven)
        self.refuses("worth t top sum to=1", NoGiven)
        self.refuses("worth p top x x=1", NoGiven)
        self.refuses("worth t top val from=4", NoSpot)
        self.refuses("worth t 2 val from=4", NoSpot)
        self.refuses("worth t 0.0.0.0 val from=4", NoSpot)
        self.refuses("worth t 2 val from=4 to=3", NoGiven)
        ring = self.refuses("worth r top u d=3", Ring).ring
        self.assertTrue(ring)

    def test_order(self):
        self.laid()
        for name, text, given in (("t", TWO, "from=4"), ("e", "bend(end)", "d=1")):
            words = self.desk.say(f"order {name} {given}").split(" ")
            self.assertEqual(words[0], "order")
            tree = {"t": (ROW_TREE_BOOK, ROW_TREE), "e": (RING_BOOK, ("bend", (("end", ()),)))}[name]
            self.assertTrue(is_order_by_the_words(all_reads(*tree), [spot_of(word) for word in words[1:]]))
        words = self.desk.say("order r d=1").split(" ")
        self.assertEqual(words[0], "ring")
        self.assertTrue(is_ring_by_the_words(all_reads(RING_BOOK, ("bend", (("loop", ()),))), [spot_of(w) for w in words[1:]]))
        self.assertEqual(set(self.desk.say("order p").split(" ")),
                         {"order", "top.x", "top.n", "0.x", "0.n", "1.x", "1.n"})
        self.refuses("order t", NoGiven)
        self.refuses("order t from=1 at=2", NoGiven)
        self.refuses("order p x=1", NoGiven)

    def test_order_without_spots(self):
        self.says("book b\nwheel 0\nsort s down / up\nform f s of\nform g s of s", "ok")
        self.says("tree t b g(f)", "ok")
        self.says("order t", "order")

    def test_safe(self):
        self.laid()
        self.says("safe b", "safe")
        self.says("safe plain", "safe")
        self.says("safe rings", "ring bend(loop)")
        self.says("book b\n" + GREAT_TEXT, "ok")
        self.refuses("safe b", TooGreat)

    def test_passes(self):
        self.laid()
        self.says("passes b", "1")
        self.says("passes plain", "1")
        self.says("passes rings", "stuck")
        back = ROWS.replace("1.from = (own.from + 1)", "1.from = own.from").replace("0.at = own.from", "0.at = 1.to")
        self.says("book back\n" + back, "ok")
        self.says("passes back", "2")
        self.says("book none\nwheel 0\nsort s down / up\nform f s of", "ok")
        self.says("passes none", "0")

    def test_straight(self):
        sorts = (("s", ("d",), ("u", "v")),)
        rules = {"u": sum_of([own("d")] * 8), "v": ("plus", own("u"), own("u"))}
        book = book_with(9, sorts, (("g", "s", ()),), lambda bare, form, key: rules[key[1]])
        self.says("book b\n" + show_book(book), "ok")
        self.says("straight c b", "ok")
        self.says("tree t c g", "ok")
        self.says("worth t top v d=1", "7")
        self.says("straight b b", "ok")
        self.says("straight c c", "ok")
        self.says("safe b", "safe")
        looped = changed(book, (2, 0, 3, 0, 2), own("v"))
        self.says("book b\n" + show_book(looped), "ok")
        self.assertEqual(self.refuses("straight c b", Tangled).form, "g")
        self.says("worth t top v d=1", "7")

    def test_straight_too_great(self):
        rules = {"x": sum_of([own("d")] * 8), "y": sum_of([own("x")] * 8), "z": sum_of([own("y")] * 8)}
        book = book_with(9, (("s", ("d",), ("x", "y", "z")),), (("g", "s", ()),), lambda bare, form, key: rules[key[1]])
        self.says("book b\n" + show_book(book), "ok")
        self.refuses("straight b b", TooGreat)
        self.refuses("straight c b", TooGreat)
        self.refuses("passes c", NoName)

    def test_kept(self):
        self.laid()
        self.says("show k", TWO)
        self.says("tell k top sum", "14")
        self.says("tell k 1.0 at", "5")
        self.says("put k 0 twice", "2")
        self.says("tell k top sum", "18")
        self.says("show k", "some(twice, some(twice, none))")
        self.says("put k 1 none", "4")
        self.says("give k from 7", "6")
        self.says("give k from 1007", "0")
        self.says("tell k top to", "8")
        self.says("back k", "0")
        self.says("back k", "6")
        self.says("back k", "9")
        self.says("back k", "2")
        self.says("show k", TWO)
        self.refuses("back k", NoChange)
        self.refuses("tell k top at", NoSpot)
        self.refuses("tell k 2.2 at", NoSpot)
        self.refuses("give k to 4", NoGiven)
        self.refuses("give k nowhere 4", NoGiven)
        self.says("tell k top sum", "14")

    def test_keep(self):
        self.laid()
        self.refuses("keep k t", NoGiven)
        self.refuses("keep k t from=1 to=2", NoGiven)
        self.refuses("keep k r d=1", Ring)
        self.refuses("keep k r", NoGiven)
        self.says("tell k top sum", "14")
        self.says("keep k e d=1", "ok")
        self.says("tell k top v", "1")
        self.says("keep k p", "ok")
        self.says("tell k top x", "8")

    def test_put_refused(self):
        self.laid()
        self.refuses("put k 0 nowhere", NoText)
        self.refuses("put k 0 ", NoText)
        self.refuses("put k 2.2 ", NoText)
        self.refuses("put k 2.2 some(same,none)", NoText)
        self.refuses("put k 2.2 none", NoPlace)
        self.refuses("put k 0.0 none", NoPlace)
        self.refuses("put k 0 none", NoFit)
        self.refuses("put k top same", NoFit)
        self.refuses("put k 1 " + row_text(29), TooGreat)
        self.refuses("put k 1 " + row_text(30), NoText)
        self.says("put k top " + row_text(29), str(29 * 5 + 2))
        self.says("keep k e d=1", "ok")
        self.refuses("put k 0 loop", Ring)
        self.refuses("put k top bend(loop)", Ring)
        self.says("show k", "bend(end)")

    def test_alike(self):
        self.laid()
        self.says("alike plain plain s x x", "alike")
        self.says("alike plain plain s x n", "parted leaf")
        self.says("book other\n" + PLAIN.replace("+ 2)", "+ 3)").replace("up x n", "up y n").replace("x", "y"), "ok")
        self.says("alike plain other s n n", "alike")
        self.says("alike plain other s x y", "parted join(leaf, leaf)")
        self.refuses("alike b plain s x n", NoPlain)
        self.refuses("alike plain rings s x n", NoPlain)
        self.says("book third\n" + PLAIN.replace("join", "bind"), "ok")
        self.refuses("alike plain third s x n", NoBuild)
        self.refuses("alike plain other t x y", NoTree)
        self.refuses("alike plain other s x x", NoWorth)
        self.refuses("alike plain other s y x", NoWorth)
        self.refuses("alike third third t q q", NoTree)

    def test_alike_too_great(self):
        text = ("wheel 0\nsort a down / up\nsort b down / up\nsort c down / up\nsort d down / up x n\nform la a of\n"
                "form lb b of a a a\nform lc c of b b b\nform ld d of c c c\nup.x = 0\nup.n = 0\nform add d of d c\n"
                "up.x = (0.x + 0.n)\nup.n = (0.n + 1)")
        self.says("book b\n" + text, "ok")
        self.refuses("alike b b d x x", TooGreat)

    def test_cheap(self):
        self.laid()
        self.says("cheap plain s=x", "s:3")
        self.says("cheap plain s=n", "s:1")
        self.refuses("cheap plain s=y", NoPrice)
        self.refuses("cheap plain t=x", NoPrice)
        self.refuses("cheap plain s=x t=x", NoPrice)
        self.refuses("cheap b row=sum cell=val", NoPrice)
        text = ("wheel 0\nsort z down / up x\nsort a down / up y\nsort n down / up x\nform f z of a a\n"
                "up.x = ((0.y max 1.y) + 5)\nform g a of\nup.y = 2\nform h n of n\nup.x = 0.x")
        self.says("book c\n" + text, "ok")
        self.says("cheap c a=y n=x z=x", "z:7 a:2")
        self.says("cheap c z=x n=x a=y", "z:7 a:2")
        self.refuses("cheap c z=x a=y", NoPrice)
        self.says("book c\nwheel 0\nsort n down / up x\nform h n of n\nup.x = 0.x", "ok")
        self.says("cheap c n=x", "")

    def test_book_and_tree_refused(self):
        self.laid()
        self.refuses("book b\n", NoText)
        self.refuses("book b\n\n" + ROWS, NoText)
        self.refuses("book b\n" + ROWS + "\n", NoText)
        self.assertEqual(self.refuses("book b\n" + ROWS.replace("form same", "form none"), NoBook).fault, "names")
        self.assertEqual(self.refuses("book b\n" + ROWS.replace("wheel 1000", "wheel 0"), NoBook).fault, "wheel")
        self.refuses("tree t b ", NoText)
        self.refuses("tree t b leaf", NoText)
        self.refuses("tree t b  none", NoText)
        self.refuses("tree t b none ", NoText)
        self.refuses("tree t b none\n", NoText)
        self.refuses("tree t plain " + TWO, NoText)
        self.refuses("tree t b " + row_text(30), NoText)
        self.says("worth t top sum from=4", "14")
        self.says("tree t b " + row_text(29), "ok")

    def test_great_numbers(self):
        big = ("num", 999999)
        six = ("times", big, ("times", big, ("times", big, ("times", big, ("times", big, ("times", big, part(0, "x")))))))
        book = book_with(0, (("s", (), ("x",)),), (("one", "s", ("s",)), ("end", "s", ())),
                         lambda bare, form, key: six if form[2] else ONE)
        self.says("book b\n" + show_book(book), "ok")
        self.says("tree t b " + show_tree(tower(60)), "ok")
        self.says("worth t top x", str(999999 ** (6 * 59)))

    def test_a_tower_of_sixty_places(self):
        self.says("book b\n" + show_book(long_book()), "ok")
        self.says("tree t b " + show_tree(tower(60)), "ok")
        self.says("worth t top z p=1 q=2 r=3", str(3 + 357))
        words = self.desk.say("order t r=3 p=1 q=2").split(" ")
        self.assertEqual(len(words), 361)
        self.assertIn(".".join(["0"] * 59) + ".x", words)
        self.says("keep k t q=2 r=3 p=1", "ok")
        self.says("give k r 4", "357")
        self.says("tell k " + ".".join(["0"] * 59) + " x", str(4 + 59 * 3 + 1))


ROW_TREE = ("some", (("same", ()), ("some", (("twice", ()), ("none", ())))))
ROW_TREE_BOOK = (
    1000,
    (("row", ("from",), ("to", "sum")), ("cell", ("at",), ("val",))),
    (
        ("none", "row", (), ((-1, "to", own("from")), (-1, "sum", ("num", 0)))),
        ("some", "row", ("cell", "row"), (
            (-1, "to", part(1, "to")), (-1, "sum", ("plus", part(0, "val"), part(1, "sum"))), (0, "at", own("from")),
            (1, "from", ("plus", own("from"), ONE)),
        )),
        ("same", "cell", (), ((-1, "val", own("at")),)),
        ("twice", "cell", (), ((-1, "val", ("times", own("at"), ("num", 2))),)),
    ),
)
RING_BOOK = (
    7,
    (("s", ("d",), ("u", "v")),),
    (
        ("bend", "s", ("s",), ((-1, "u", part(0, "u")), (-1, "v", part(0, "v")), (0, "d", part(0, "v")))),
        ("loop", "s", (), ((-1, "u", own("d")), (-1, "v", own("d")))),
        ("end", "s", (), ((-1, "u", own("d")), (-1, "v", ONE))),
    ),
)
# p hangs with x at the leaf, with y a step on, with z two steps on, which is 83 places: no tree of sixty has that hang.
GREAT_TEXT = """wheel 9
sort a down p / up x y z
sort b down / up
sort c down / up
sort d down / up
form leaf a of
up.x = own.p
up.y = 1
up.z = 1
form step a of a d
up.x = 0.x
up.y = 0.x
up.z = 0.y
0.p = own.p
form fb b of a a a
0.p = 1
1.p = 1
2.p = 1
form fc c of b b b
form fd d of c c c"""


def spot_of(text):
    place, dot, word = text.rpartition(".")
    return (() if place == "top" else tuple(int(k) for k in place.split("."))), word


def row_text(cells):
    return "some(same, " * cells + "none" + ")" * cells


class RowTest(DeskCase):

    good = {
        "worth t top sum from=4": 4, "worth t 1.1 to from=4": 4, "order t from=4": 2, "order p": 2, "worth p 0 x": 4,
        "safe b": 2, "passes b": 2, "straight new b": 3, "keep k t from=4": 3, "keep new p": 3, "give k from 5": 4,
        "back k": 2, "show k": 2, "tell k top sum": 4, "tell k 0 at": 4, "alike plain plain s x x": 6, "cheap plain s=x": 3,
    }

    def bent(self, row):
        """The row, of words alone, bent in all the ways by which it is none."""
        words = row.split(" ")
        yield " " + row
        yield row + " "
        yield "\n" + row
        yield row + "\n"
        yield row + " x"
        yield row + " X"
        yield row + " 1"
        for k in range(1, len(words)):
            yield " ".join(words[:k]) + "  " + " ".join(words[k:])
            yield " ".join(words[:k]) + "\n" + " ".join(words[k:])
        for word in ("", "X", "a1", "abcdefghi", "a-b", "~", "a\n", "a.b", "top.x"):
            for k in range(len(words)):
                yield " ".join(words[:k] + [word] + words[k + 1:])

    def test_each_kind_bent(self):
        self.laid()
        for row in self.good:
            for bent in self.bent(row):
                self.refuses(bent, NoRow)
        for row in self.good:
            if row != "back k":
                self.desk.say(row)

    def test_a_word_too_few(self):
        self.laid()
        for row, fewest in self.good.items():
            words = row.split(" ")
            for k in range(fewest):
                self.refuses(" ".join(words[:k]), NoRow)

    def test_rows_that_begin_otherwise(self):
        self.laid()
        for row in ("", " ", "\n", "Book b\n" + ROWS, "books b\n" + ROWS, "bookb", "hello", "WORTH t top sum from=4", "worths",
                    "t", "b", "first b", "word b", "text", "kept k", "wheel 0", "worth,t,top,sum", "~", "=", "safe\nb"):
            self.refuses(row, NoRow)

    def test_rows_of_books(self):
        self.laid()
        for head in ("book", "book ", "book b", "book b ", " book b", "book  b", "book b c", "book B", "book abcdefghi", "book 1",
                     "book \nb", "book", "book b b"):
            self.refuses(head, NoRow)
            if head != "book b":
                self.refuses(head + "\n" + ROWS, NoRow)
        self.refuses("book b " + ROWS, NoRow)
        self.refuses("book\nb\n" + ROWS, NoRow)
        self.refuses("book b\n", NoText)
        self.refuses("book b\n ", NoText)
        self.says("book b\n" + ROWS, "ok")

    def test_rows_of_trees(self):
        self.laid()
        for row in ("tree", "tree ", "tree t", "tree t ", "tree t b", " tree t b none", "tree  t b none", "tree t  b none",
                    "tree T b none", "tree t B none", "tree t b1 none", "tree abcdefghi b none", "tree t\nb none",
                    "tree t b\nnone", "tree\nt b none", "tree t"):
            self.refuses(row, NoRow)
        for row in ("tree t b ", "tree t b  none", "tree t b  ", "tree t b\u0020\n"):
            self.refuses(row, NoText)

    def test_rows_of_puts(self):
        self.laid()
        for row in ("put", "put ", "put k", "put k ", "put k 0", "put k 0\nsame", " put k 0 same", "put  k 0 same", "put k  0 same",
                    "put K 0 same", "put k 3 same", "put k x same", "put k 0. same", "put k .0 same", "put k 0..0 same",
                    "put k 00 same", "put k -1 same", "put k Top same", "put k top.0 same", "put k 0.top same", "put k 0,0 same",
                    "put k () same", "put k 0.3 same"):
            self.refuses(row, NoRow)
        self.refuses("put k 0 ", NoText)
        self.refuses("put k 0  same", NoText)
        self.refuses("put k 0 same ", NoText)
        self.says("put k 0 same", "1")

    def test_places(self):
        self.laid()
        for place in ("", "3", "9", "x", "0.", ".", ".0", "0..1", "00", "-1", "Top", "top.0", "0.top", "TOP", "0 1", "1.3", "+1",
                      "toptop", "0.1.", "\u0661"):
            self.refuses(f"worth t {place} sum from=4", NoRow)
            self.refuses(f"tell k {place} sum", NoRow)
        for place, due in (("top", "14"), ("1", "10"), ("1.1", "0")):
            self.says(f"tell k {place} sum", due)
        self.refuses("tell k " + ".".join(["0"] * 1990) + " x", NoSpot)

    def test_numbers(self):
        self.laid()
        for number in ("", "-", "+4", "04", "00", "-0", "-04", "4.0", "x", "4x", "--4", "1_0", "=4", "4=", "1" * 31, "-" + "1" * 31,
                       "1" * 3900, "0" * 31, "\u0664", "(4)", "top"):
            self.refuses(f"give k from {number}", NoRow)
            self.refuses(f"worth t top sum from={number}", NoRow)
            self.refuses(f"order t from={number}", NoRow)
            self.refuses(f"keep k t from={number}", NoRow)
        for number in (0, 7, -7, 10 ** 30 - 1, 1 - 10 ** 30, 10 ** 29):
            self.desk.say(f"give k from {number}")
            self.says("tell k top from", str(number % 1000))
            self.says(f"worth t top from from={number}", str(number % 1000))

    def test_given(self):
        text = ROWS.replace("down from /", "down from by /").replace("1.from = (own.from + 1)",
                                                                   "1.from = (own.from + own.by)\n1.by = own.by")
        self.says("book b\n" + text, "ok")
        self.says("tree t b " + TWO, "ok")
        for row, due in (("worth t top to from=1 by=10", "21"), ("worth t top to by=10 from=1", "21"),
                         ("keep k t by=10 from=1", "ok"), ("tell k top to", "21")):
            self.says(row, due)
        self.assertEqual(self.desk.say("order t by=1 from=2")[:6], "order ")
        for given in ("from=1  by=10", "from=1 by=10 ", "from=1 from=1", "from=1 from=2 by=3", "from=1 by", "from= by=1", "=1 by=1",
                      "from=1 by=10 by=10", "from=1,by=10", "from =1 by=10", "from= 1 by=10", "from=1 by=x", "From=1 by=10",
                      "from==1 by=1", "from=1=1 by=1", "from:1 by:1", "by=1 =", "=", "from=1 by=1 x=1 x=1"):
            for head in ("worth t top to ", "order t ", "keep k t "):
                self.refuses(head + given, NoRow)
        for given in ("from=1", "by=1", "from=1 by=2 x=3", "x=1 y=2"):
            for head in ("worth t top to ", "order t ", "keep k t "):
                self.refuses(head + given, NoGiven)
        for head in ("worth t top to", "order t", "keep k t"):
            self.refuses(head, NoGiven)

    def test_pricings(self):
        self.laid()
        for row in ("cheap", "cheap plain", "cheap plain ", "cheap plain s", "cheap plain s=", "cheap plain =x", "cheap plain s=x ",
                    "cheap plain  s=x", "cheap plain s=x s=x", "cheap plain s=x s=n", "cheap plain s=1", "cheap plain s==x",
                    "cheap plain s=x=x", "cheap plain S=x", "cheap plain s=X", "cheap plain s=x  t=x", "cheap plain s:x", "cheap s=x",
                    "cheap plain s=abcdefghi", "cheap plain plain s=x"):
            self.refuses(row, NoRow)

    def test_no_row_goes_ahead_of_no_name(self):
        for row in ("worth t 3 sum", "worth t top sum from=x", "order t from", "give k from x", "tell k 0. at", "put k 9 none",
                    "keep k t a=1 a=1", "alike a b s x", "alike a b s x Y", "cheap b", "safe b c", "tree t b", "straight b",
                    "cheap b s=x s=y"):
            self.refuses(row, NoRow)

    def test_no_name_goes_ahead_of_what_the_stages_refuse(self):
        self.laid()
        for row in ("tree t c ", "tree t c none", "worth u 0.0 nowhere x=1", "order u x=1", "safe c", "passes c", "straight b c",
                    "keep k u x=1", "put j 2.2 nowhere", "put j 0 ", "give j nowhere 4", "back j", "show j", "tell j 2.2 nowhere",
                    "alike c c t q q", "alike plain c t q q", "alike c b t q q", "cheap c s=q"):
            self.refuses(row, NoName)
        self.says("show k", TWO)


W, PLACE, N = "[a-z]{1,8}", r"(?:top|[0-2](?:\.[0-2])*)", "(?:0|-?[1-9][0-9]{0,29})"
GRAMMAR = [re.compile(text, re.DOTALL) for text in (
    f"book {W}\n.*", f"tree {W} {W} .*", f"worth {W} {PLACE} {W}(?: {W}={N})*", f"order {W}(?: {W}={N})*", f"safe {W}",
    f"passes {W}", f"straight {W} {W}", f"keep {W} {W}(?: {W}={N})*", f"put {W} {PLACE} .*", f"give {W} {W} {N}", f"back {W}",
    f"show {W}", f"tell {W} {PLACE} {W}", f"alike {W} {W} {W} {W} {W}", f"cheap {W}(?: {W}={W})+",
)]


def is_row_by_the_words(row):
    if not any(kind.fullmatch(row) for kind in GRAMMAR):
        return False
    told = [word.partition("=")[0] for word in row.split(" ") if "=" in word]
    return row.startswith(("book ", "tree ", "put ")) or len(set(told)) == len(told)


class GrammarTest(DeskCase):

    def test_rows_bent_at_random(self):
        """On an empty desk a row that is one is refused for its names, or, of a book, its text."""
        rows = ["worth t top x a=1 b=-20", "worth t 0.1.2 x", "order t a=0 b=10", "safe b", "passes b", "straight a b",
                "keep k t a=1 b=2", "put k 0.2 f(g, h)", "put k top ", "give k d -15", "back k", "show k", "tell k 1.1 x",
                "alike a b s x y", "cheap b s=x t=y", "tree t b f(g, h)", "book b\nwheel 0"]
        chance, seen = random.Random(31), {True: 0, False: 0}
        for _ in range(6000):
            row = chance.choice(rows)
            for _ in range(chance.randrange(1, 3)):
                k = chance.randrange(len(row) + 1)
                row = row[:k] + chance.choice(["", "", *" =.-0129abtx\nA", "top", " a=1"]) + row[k + chance.randrange(2):]
            due = is_row_by_the_words(row)
            seen[due] += 1
            with self.subTest(row=row), self.assertRaises(BoughError) as caught:
                self.desk.say(row)
            refusals = (NoText,) if row.startswith("book ") else (NoName,)
            self.assertIn(type(caught.exception), refusals if due else (NoRow,), row)
        self.assertGreater(min(seen.values()), 500, seen)


class NamesTest(DeskCase):

    def test_each_kind_stands_for_itself(self):
        self.says("book n\n" + ROWS, "ok")
        self.refuses("worth n top sum from=4", NoName)
        self.refuses("show n", NoName)
        self.refuses("keep n n from=4", NoName)
        self.says("tree n n " + TWO, "ok")
        self.refuses("show n", NoName)
        self.says("keep n n from=4", "ok")
        self.says("safe n", "safe")
        self.says("worth n top sum from=5", "17")
        self.says("tell n top sum", "14")
        self.says("show n", TWO)

    def test_names_of_other_kinds_are_none(self):
        self.laid()
        for row in ("safe t", "safe k", "passes t", "straight x k", "tree x t none", "tree x k none", "worth b top sum from=4",
                    "worth k top sum from=4", "order b from=1", "order k", "keep x b from=4", "keep x k from=4", "show b", "show t",
                    "back t", "put t 0 same", "give b from 4", "tell t top sum", "alike t t s x x", "alike plain p s x x",
                    "cheap p s=x", "cheap k s=x"):
            self.refuses(row, NoName)
        self.refuses("safe x", NoName)
        self.refuses("order x from=1", NoName)

    def test_trees_stay_with_their_book(self):
        self.laid()
        self.says("book b\n" + ROWS.replace("(own.at * 2)", "(own.at * 3)").replace("wheel 1000", "wheel 100"), "ok")
        self.says("worth t top sum from=4", "14")
        self.says("worth t top from from=999", "999")
        self.says("tree u b " + TWO, "ok")
        self.says("worth u top sum from=4", "19")
        self.says("book b\n" + PLAIN, "ok")
        self.says("worth t top sum from=4", "14")
        self.says("worth u top sum from=4", "19")
        self.says("keep j u from=4", "ok")
        self.says("tell j top sum", "19")
        self.refuses("tree v b " + TWO, NoText)

    def test_kept_trees_stay_as_they_are(self):
        self.laid()
        self.says("tree t b none", "ok")
        self.says("show k", TWO)
        self.says("book b\n" + PLAIN, "ok")
        self.says("put k 0 twice", "2")
        self.says("tell k top sum", "18")
        self.refuses("put k 0 leaf", NoText)
        self.says("keep j t from=9", "ok")
        self.says("show j", "none")
        self.says("show k", "some(twice, some(twice, none))")
        self.says("back k", "2")

    def test_told_anew(self):
        self.laid()
        self.says("put k 0 twice", "2")
        self.says("keep k t from=1", "ok")
        self.refuses("back k", NoChange)
        self.says("tree t b none", "ok")
        self.says("worth t top to from=4", "4")
        self.says("book plain\n" + RINGS, "ok")
        self.says("safe plain", "ring bend(loop)")
        self.says("straight plain b", "ok")
        self.says("safe plain", "safe")

    def test_two_kept_trees_of_one_tree(self):
        self.laid()
        self.says("keep j t from=4", "ok")
        self.says("put j 0 twice", "2")
        self.says("tell k top sum", "14")
        self.says("tell j top sum", "18")
        self.says("worth t top sum from=4", "14")

    def test_what_is_refused_changes_nothing(self):
        self.laid()
        for row, refusal in (("book b\nwheel 1", NoText), ("book b\n" + ROWS.replace("form same", "form none"), NoBook),
                             ("tree t b leaf", NoText), ("tree t c none", NoName), ("keep k t", NoGiven), ("keep k r d=1", Ring),
                             ("put k 0 none", NoFit), ("give k to 1", NoGiven), ("back k", NoChange), ("straight b c", NoName),
                             ("book new\n", NoText), ("tree new b x", NoText), ("keep new t", NoGiven)):
            self.refuses(row, refusal)
            self.says("safe b", "safe")
            self.says("worth t top sum from=4", "14")
            self.says("tell k top sum", "14")
            self.refuses("safe new", NoName)
            self.refuses("order new", NoName)
            self.refuses("show new", NoName)

    def test_two_desks_by_turns(self):
        other = Desk()
        self.laid()
        with self.assertRaises(NoName):
            other.say("safe b")
        self.assertEqual(other.say("book b\n" + PLAIN), "ok")
        self.assertEqual(other.say("tree t b leaf"), "ok")
        self.says("worth t top sum from=4", "14")
        self.assertEqual(other.say("worth t top x"), "3")
        self.assertEqual(other.say("keep k t"), "ok")
        self.says("put k 0 twice", "2")
        with self.assertRaises(NoChange):
            other.say("back k")
        self.assertEqual(other.say("show k"), "leaf")
        self.says("show k", "some(twice, some(twice, none))")

    def test_an_empty_desk(self):
        for row in ("safe b", "order t", "show k", "tree t b none", "keep k t", "straight b b"):
            self.refuses(row, NoName)


class SameAsTheModulesTest(DeskCase):

    def test_books_made_straight_on_the_desk(self):
        self.says("book b\n" + show_book(ROW_BOOK), "ok")
        self.says("straight c b", "ok")
        made = made_straight(ROW_BOOK)
        self.says("passes c", str(max(passes_of(made)[1].values())))
        self.says("safe c", order_for_all(made)[0])
        tree = ("some", (("same", ()), ("some", (("squared", ()), ("none", ())))))
        self.says("tree t c " + show_tree(tree), "ok")
        self.says("worth t top sum from=3 step=4", "52")
        self.assertEqual(len(self.desk.say("order t from=3 step=4").split(" ")), 1 + len(all_spots(made, tree)))


if __name__ == "__main__":
    unittest.main()
