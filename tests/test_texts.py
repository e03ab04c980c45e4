"""Programs shown as rows (point 17), and read back."""

import copy
import unittest

from everyfork.reading import read
from everyfork.texts import shown
from tests.samples import LESS, NUM, RECORDS, WHOLE, X, Maker, function, program

ROWS = [
    "record point x num y num",
    "record sheet title text at point cells row",
    "record book one sheet two sheet",
    "function main row n num t text r row s sheet",
    "local i num",
    "local u text",
    "local q row",
    "local p point",
    "local out sheet",
    "local b book",
    "let i -7",
    "let u text 6 97 32 98 126 34 92",
    "say ready not same var n 3",
    "if and less var n 0 or less 2 var n same len var t 0",
    "let p new point 2 var n times -3 var n",
    "while less var i 0",
    "let i add var i 1",
    "if less 2 var n",
    "else",
    "let q more var q var i",
    "end",
    "end",
    "else",
    "let q signs var t",
    "call i helper 2 var s sub var n 1",
    "let out with at var s var p",
    "end",
    "let b new book 2 var s var out",
    "let i at var t div 2 var n",
    "let q put rows 2 1 var i rest 99 var n 5",
    "let i of y of at of two var b",
    "give of cells var s",
    "end",
    "function helper num s sheet n num",
    "if less var n 0",
    "give 0",
    "else",
    "end",
    "call n helper 2 var s sub var n 1",
    "give at of cells var s var n",
    "end",
    "function none book",
    "end",
]


class Shown(unittest.TestCase):
    def row(self, statement, wanted, kind="num"):
        """The row of a statement, which is the second of its function."""
        thing = program((statement,), (("x", "num"),), (), kind, RECORDS)
        told = shown(thing)
        self.assertEqual(told[4], wanted)
        self.assertEqual(read(told), thing)

    def expression(self, e, wanted):
        self.row(("let", "x", e), "let x " + wanted)

    def condition(self, c, wanted):
        self.row(("say", "low", c), "say low " + wanted)

    def test_every_word(self):
        self.assertEqual(shown(WHOLE), ROWS)
        self.assertEqual(read(ROWS), WHOLE)

    def test_the_least_program(self):
        least = ((), (("f", (), (), "num", ()),))
        self.assertEqual(shown(least), ["function f num", "end"])
        self.assertEqual(read(["function f num", "end"]), least)

    def test_numbers(self):
        for number in (0, 1, -1, 9, 10, -10, 10 ** 6, -10 ** 6, 999999, 100000):
            self.expression(("num", number), str(number))
            self.expression(("times", number, X), f"times {number} var x")
        for number in (2, 99):
            self.expression(("div", X, number), f"div {number} var x")
            self.expression(("rest", X, number), f"rest {number} var x")

    def test_texts(self):
        signs = "".join(chr(number) for number in range(32, 127) if number != 37)
        for text in ("", " ", "~", "a", signs[:40], signs[40:80], signs[80:]):
            wanted = " ".join(["len text", str(len(text))] + [str(ord(sign)) for sign in text])
            self.expression(("len", ("text", text)), wanted)

    def test_expressions(self):
        row, text, point = ("rows", (NUM, X)), ("text", "a"), ("new", "point", (X, NUM))
        self.expression(("add", NUM, X), "add 1 var x")
        self.expression(("sub", X, NUM), "sub var x 1")
        self.expression(("len", row), "len rows 2 1 var x")
        self.expression(("len", ("rows", ())), "len rows 0")
        self.expression(("at", row, X), "at rows 2 1 var x var x")
        self.expression(("len", ("put", row, X, NUM)), "len put rows 2 1 var x var x 1")
        self.expression(("len", ("more", row, X)), "len more rows 2 1 var x var x")
        self.expression(("len", ("signs", text)), "len signs text 1 97")
        self.expression(("of", point, "y"), "of y new point 2 var x 1")
        self.expression(("of", ("with", point, "x", ("num", 5)), "y"), "of y with x new point 2 var x 1 5")

    def test_conditions(self):
        same = ("same", X, X)
        self.condition(LESS, "less 1 var x")
        self.condition(same, "same var x var x")
        self.condition(("and", LESS, same), "and less 1 var x same var x var x")
        self.condition(("or", same, LESS), "or same var x var x less 1 var x")
        self.condition(("not", ("or", ("and", LESS, same), ("not", LESS))),
                       "not or and less 1 var x same var x var x not less 1 var x")

    def test_calls(self):
        self.row(("call", "x", "f", (X,)), "call x f 1 var x")
        thing = ((), (function((("call", "x", "f", ()),), (), (("x", "num"),)),))
        self.assertEqual(shown(thing)[2], "call x f 0")
        self.assertEqual(read(shown(thing)), thing)

    def test_names_that_are_words(self):
        words = ("let", "end", "else", "local", "function", "record", "if", "while", "call", "give", "say", "var", "of",
                 "with", "new", "add", "len", "at", "rows", "put", "more", "signs", "less", "same", "and", "or", "not")
        for word in words:
            record = (word, ((word, "num"),))
            body = (("let", word, ("with", ("new", word, (("of", ("var", word), word),)), word, ("num", 1))),
                    ("say", word, LESS), ("call", word, word, (("var", word), X)),
                    ("if", LESS, (("give", ("var", word)),), ()))
            thing = ((record,), ((word, ((word, word), ("x", "num")), (), word, body),))
            self.assertEqual(read(shown(thing)), thing)
            self.assertEqual(shown(read(shown(thing))), shown(thing))

    def test_back_as_they_were(self):
        for seed in range(150):
            thing = Maker(seed).program()
            before = copy.deepcopy(thing)
            rows = shown(thing)
            self.assertIs(type(rows), list)
            for row in rows:
                self.assertNotIn("  ", row)
                self.assertEqual(row, row.strip())
            self.assertEqual(repr(read(rows)), repr(thing))
            self.assertEqual(thing, before)

    def test_told_anew(self):
        shown(WHOLE).clear()
        self.assertEqual(shown(WHOLE), ROWS)


if __name__ == "__main__":
    unittest.main()
