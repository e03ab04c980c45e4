"""Kinds of expressions, functions by name, lines and spots (points 3, 12 and 16)."""

import copy
import unittest

from everyfork.programs import function_of, kind_of, lines_of, spots_of, within
from tests.samples import LESS, NUM, RECORDS, WHOLE, X, function, program

GIVE = ("give", NUM)


def let(number):
    """A let that is unlike those of other numbers."""
    return ("let", "x", ("num", number))


class KindOf(unittest.TestCase):
    def told(self, e, wanted):
        self.assertEqual(kind_of(WHOLE, "main", e), wanted, e)

    def test_num(self):
        n, t, r = ("var", "n"), ("var", "t"), ("var", "r")
        for e in (NUM, n, ("add", n, n), ("sub", n, NUM), ("times", 3, n), ("div", n, 2), ("rest", n, 99), ("len", t),
                  ("len", r), ("at", t, n), ("at", r, n)):
            self.told(e, "num")

    def test_text_and_row(self):
        n, t, r = ("var", "n"), ("var", "t"), ("var", "r")
        for e in (("text", ""), ("text", "ab"), t):
            self.told(e, "text")
        for e in (r, ("rows", ()), ("rows", (n, NUM)), ("put", r, n, n), ("more", r, n), ("signs", t)):
            self.told(e, "row")

    def test_records(self):
        s, b, p = ("var", "s"), ("var", "b"), ("var", "p")
        self.told(s, "sheet")
        self.told(("of", s, "title"), "text")
        self.told(("of", s, "at"), "point")
        self.told(("of", ("of", s, "at"), "x"), "num")
        self.told(("of", s, "cells"), "row")
        self.told(("of", b, "two"), "sheet")
        self.told(("with", s, "at", p), "sheet")
        self.told(("with", b, "one", s), "book")
        self.told(("new", "point", (NUM, NUM)), "point")
        self.told(("new", "book", (s, s)), "book")

    def test_by_the_functions_own_variables(self):
        one = function((), (("x", "num"),))
        two = function((), (), (("x", "text"),), name="g")
        self.assertEqual(kind_of(((), (one, two)), "f", X), "num")
        self.assertEqual(kind_of(((), (one, two)), "g", X), "text")


class FunctionOf(unittest.TestCase):
    def test_each(self):
        for one in WHOLE[1]:
            self.assertEqual(function_of(WHOLE, one[0]), one)

    def test_none(self):
        for name in ("", "f", "maine", "point", "sheet", "num"):
            self.assertIsNone(function_of(WHOLE, name))


class Lines(unittest.TestCase):
    def setUp(self):
        self.while_two = ("while", LESS, (let(4), let(5)))
        self.inner = ("if", LESS, (let(3), self.while_two), ())
        self.empty = ("if", LESS, (), (let(6),))
        self.outer = ("if", LESS, (let(2), self.inner), (self.empty, let(7)))
        self.void = ("while", LESS, ())
        self.function = function((let(1), self.outer, self.void, GIVE), (("x", "num"),))

    def test_numbers_as_written(self):
        self.assertEqual(lines_of(self.function), [
            let(1), self.outer, let(2), self.inner, let(3), self.while_two, let(4), let(5), self.empty, let(6), let(7),
            self.void, GIVE])

    def test_void_body(self):
        self.assertEqual(lines_of(function(())), [])

    def test_within(self):
        self.assertEqual(within(self.outer), lines_of(self.function)[2:11])
        self.assertEqual(within(self.inner), [let(3), self.while_two, let(4), let(5)])
        self.assertEqual(within(self.while_two), [let(4), let(5)])
        self.assertEqual(within(self.empty), [let(6)])
        for statement in (self.void, GIVE, let(1), ("say", "a", LESS), ("call", "x", "f", ())):
            self.assertEqual(within(statement), [])

    def test_a_statement_and_those_in_it_make_all_lines(self):
        for one in WHOLE[1]:
            told = []
            for statement in one[4]:
                told.append(statement)
                told.extend(within(statement))
            self.assertEqual(lines_of(one), told)

    def test_told_anew(self):
        before = copy.deepcopy(self.function)
        wanted = lines_of(self.function)
        lines_of(self.function).clear()
        within(self.outer).append(0)
        self.assertEqual(lines_of(self.function), wanted)
        self.assertEqual(len(within(self.outer)), 9)
        self.assertEqual(self.function, before)


class Spots(unittest.TestCase):
    def test_ways(self):
        for statement in (("if", LESS, (), ()), ("while", LESS, ())):
            told = spots_of(program((statement,), (("x", "num"),)))
            self.assertEqual(told, [("line", "f", 0), ("way", "f", 0, True), ("way", "f", 0, False)])
            self.assertIs(told[1][3], True)
            self.assertIs(told[2][3], False)

    def test_say(self):
        told = spots_of(program((("say", "low", LESS), ("say", "low", LESS)), (("x", "num"),)))
        self.assertEqual(told, [("line", "f", 0), ("breaks", "f", 0, "low"), ("line", "f", 1), ("breaks", "f", 1, "low")])

    def test_range(self):
        at, put = ("at", ("rows", (NUM,)), NUM), ("put", ("rows", ()), NUM, NUM)
        other = function((), (("a", "num"), ("b", "row")), name="g")
        body = (("let", "x", at), ("let", "x", ("add", NUM, ("times", 2, at))), ("let", "x", ("len", put)),
                ("let", "x", ("len", ("rows", (NUM, at)))), ("call", "x", "g", (NUM, put)), ("call", "x", "g", (at, ("rows", ()))),
                ("give", at), ("let", "x", NUM), ("call", "x", "g", (NUM, ("rows", ()))), ("give", NUM))
        told = spots_of(program(body, (("x", "num"),), (), "num", (), (other,)))
        broken = [spot for spot in told if spot[0] == "breaks"]
        self.assertEqual(broken, [("breaks", "f", k, "range") for k in range(7)])
        self.assertEqual([spot for spot in told if spot[0] == "line"], [("line", "f", k) for k in range(10)])
        self.assertEqual(told[:4], [("line", "f", 0), ("breaks", "f", 0, "range"), ("line", "f", 1), ("breaks", "f", 1, "range")])

    def test_range_in_records(self):
        at = ("at", ("rows", (NUM,)), NUM)
        point = ("new", "point", (NUM, at))
        body = (("let", "p", point), ("let", "p", ("with", ("var", "p"), "x", at)), ("let", "x", ("of", point, "x")),
                ("let", "x", ("of", ("with", ("var", "p"), "x", NUM), "y")))
        told = spots_of(program(body, (("x", "num"),), (("p", "point"),), "num", RECORDS))
        self.assertEqual([spot[2] for spot in told if spot[0] == "breaks"], [0, 1, 2])

    def test_function_by_function(self):
        told = spots_of(WHOLE)
        self.assertEqual([spot[1] for spot in told if spot[0] == "line"], ["main"] * 17 + ["helper"] * 4)
        self.assertEqual(told[-7:], [
            ("line", "helper", 0), ("way", "helper", 0, True), ("way", "helper", 0, False), ("line", "helper", 1),
            ("line", "helper", 2), ("line", "helper", 3), ("breaks", "helper", 3, "range")])
        self.assertEqual(len(told), len(set(told)))

    def test_told_anew(self):
        before = copy.deepcopy(WHOLE)
        wanted = spots_of(WHOLE)
        self.assertIs(type(wanted), list)
        spots_of(WHOLE).clear()
        self.assertEqual(spots_of(WHOLE), wanted)
        self.assertEqual(WHOLE, before)


if __name__ == "__main__":
    unittest.main()
