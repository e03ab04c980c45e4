"""Runs: how they end and what they meet (points 20, 21 and 22)."""

import copy
import unittest

from everyfork.programs import spots_of
from everyfork.running import run
from everyfork.values import is_value
from tests.samples import LESS, NUM, RECORDS, WHOLE, X, Maker, function, program

ROW = ("rows", (("num", 10), ("num", 20), ("num", 30)))


class Broken(Exception):
    """A line of the other runner broke."""


class Dry(Exception):
    """The other runner has no tick left."""


class Gave(Exception):
    """A frame of the other runner gives a value."""


class Other:
    """Another runner, which goes by calls of its own and by errors; for short runs alone."""

    def __init__(self, program, ticks):
        self.records = dict(program[0])
        self.functions = {one[0]: one for one in program[1]}
        self.ticks = ticks
        self.spots = []

    def meet(self, *spot):
        if spot not in self.spots:
            self.spots.append(spot)

    def nought(self, kind):
        if kind in self.records:
            return tuple(self.nought(inner) for _, inner in self.records[kind])
        return {"num": 0, "text": "", "row": ()}[kind]

    def told(self, f, values):
        try:
            end = ("back", self.frame(f, values))
        except Broken as e:
            end = ("fails",) + e.args
            self.meet("breaks", *e.args)
        except Dry:
            end = ("dry",)
        return end, self.spots

    def frame(self, f, values):
        _, params, inner, kind, body = self.functions[f]
        kinds = dict(params + inner)
        held = {name: (one, value) for (name, one), value in zip(params, values)}
        held.update({name: (one, self.nought(one)) for name, one in inner})
        try:
            self.body(f, kinds, held, body, 0)
        except Gave as e:
            return e.args[0]
        return self.nought(kind)

    def lines(self, body):
        return sum(1 + sum(self.lines(part) for part in one if one[0] in ("if", "while") and part and type(part[0]) is tuple)
                   for one in body)

    def body(self, f, kinds, held, body, k):
        for one in body:
            self.line(f, kinds, held, one, k)
            k += self.lines((one,))

    def line(self, f, kinds, held, one, k):
        if self.ticks == 0:
            raise Dry()
        self.ticks -= 1
        self.meet("line", f, k)
        value = lambda e: self.value(f, k, held, e)[1]
        if one[0] == "let":
            held[one[1]] = (kinds[one[1]], value(one[2]))
        elif one[0] == "say":
            if not self.holds(f, k, held, one[2]):
                raise Broken(f, k, one[1])
        elif one[0] == "give":
            raise Gave(value(one[1]))
        elif one[0] == "call":
            held[one[1]] = (kinds[one[1]], self.frame(one[2], [value(e) for e in one[3]]))
        elif one[0] == "if":
            truth = self.holds(f, k, held, one[1])
            self.meet("way", f, k, truth)
            self.body(f, kinds, held, one[2] if truth else one[3], k + 1 if truth else k + 1 + self.lines(one[2]))
        else:
            truth = self.holds(f, k, held, one[1])
            self.meet("way", f, k, truth)
            if truth:
                self.body(f, kinds, held, one[2], k + 1)
                self.line(f, kinds, held, one, k)

    def holds(self, f, k, held, c):
        if c[0] == "not":
            return not self.holds(f, k, held, c[1])
        if c[0] in ("and", "or"):
            return {"and": all, "or": any}[c[0]]([self.holds(f, k, held, one) for one in c[1:]])
        one, other = [self.value(f, k, held, e)[1] for e in c[1:]]
        return one < other if c[0] == "less" else one == other

    def value(self, f, k, held, e):
        """(kind, value) of an expression."""
        word, go = e[0], lambda one: self.value(f, k, held, one)
        if word in ("num", "text"):
            return word, e[1]
        if word == "var":
            return held[e[1]]
        if word in ("of", "with"):
            kind, value = go(e[1])
            fields = self.records[kind]
            place = [name for name, _ in fields].index(e[2])
            if word == "of":
                return fields[place][1], value[place]
            return kind, tuple(go(e[3])[1] if spot == place else old for spot, old in enumerate(value))
        if word == "new":
            return e[1], tuple(go(one)[1] for one in e[2])
        if word == "rows":
            return "row", tuple(go(one)[1] for one in e[1])
        if word in ("times",):
            return "num", e[1] * go(e[2])[1]
        if word in ("div", "rest"):
            return "num", divmod(go(e[1])[1], e[2])[word == "rest"]
        inner = [go(one)[1] for one in e[1:]]
        if word in ("at", "put") and inner[1] not in range(len(inner[0])):
            raise Broken(f, k, "range")
        if word == "at":
            return "num", [ord(one) if type(one) is str else one for one in inner[0]][inner[1]]
        if word == "put":
            changed = list(inner[0])
            changed[inner[1]] = inner[2]
            return "row", tuple(changed)
        return {"add": lambda: ("num", inner[0] + inner[1]), "sub": lambda: ("num", inner[0] - inner[1]),
                "len": lambda: ("num", len(inner[0])), "more": lambda: ("row", (*inner[0], inner[1])),
                "signs": lambda: ("row", tuple(map(ord, inner[0])))}[word]()


class Running(unittest.TestCase):
    def value(self, e, wanted, kind="num", x=0, records=RECORDS):
        """The value that an expression has."""
        thing = program((("give", e),), (("x", "num"),), (), kind, records)
        end, spots = run(thing, "f", (x,), 1)
        self.assertEqual(end, ("back", wanted))
        self.assertIs(type(end[1]), type(wanted))
        self.assertEqual(spots, [("line", "f", 0)])

    def breaks(self, e, kind="num", x=0):
        thing = program((("let", "y", NUM), ("give", e)), (("x", "num"),), (("y", "num"),), kind, RECORDS)
        end, spots = run(thing, "f", (x,), 9)
        self.assertEqual(end, ("fails", "f", 1, "range"))
        self.assertEqual(spots, [("line", "f", 0), ("line", "f", 1), ("breaks", "f", 1, "range")])

    def holds(self, c, wanted, x=0):
        thing = program((("if", c, (("give", ("num", 1)),), (("give", ("num", 2)),)),), (("x", "num"),))
        end, spots = run(thing, "f", (x,), 2)
        self.assertEqual(end, ("back", 1 if wanted else 2), c)
        self.assertEqual(spots, [("line", "f", 0), ("way", "f", 0, wanted), ("line", "f", 1 if wanted else 2)])
        self.assertIs(spots[1][3], wanted)


class Values(Running):
    def test_numbers(self):
        self.value(("num", -5), -5)
        self.value(X, 7, x=7)
        self.value(("add", X, ("num", 3)), 10, x=7)
        self.value(("sub", X, ("num", 9)), -2, x=7)
        self.value(("times", -3, X), -21, x=7)
        self.value(("times", 0, X), 0, x=7)
        self.value(("add", X, X), 2 * 10 ** 59, x=10 ** 59)

    def test_div_and_rest(self):
        for number in (-9, -8, -5, -1, 0, 1, 5, 8, 9, 10 ** 30 + 7, -10 ** 30 - 7):
            for by in (2, 3, 99):
                div, rest = number // by, number % by
                self.assertTrue(by * div <= number < by * (div + 1) and number == by * div + rest)
                self.value(("div", X, by), div, x=number)
                self.value(("rest", X, by), rest, x=number)

    def test_len(self):
        self.value(("len", ROW), 3)
        self.value(("len", ("rows", ())), 0)
        self.value(("len", ("text", "abcd")), 4)
        self.value(("len", ("text", "")), 0)

    def test_texts_and_rows(self):
        self.value(("text", "a ~"), "a ~", "text")
        self.value(("rows", ()), (), "row")
        self.value(("rows", (X, NUM)), (5, 1), "row", x=5)
        self.value(("more", ROW, X), (10, 20, 30, 5), "row", x=5)
        self.value(("more", ("rows", ()), X), (5,), "row", x=5)
        self.value(("signs", ("text", "a ~")), (97, 32, 126), "row")
        self.value(("signs", ("text", "")), (), "row")

    def test_at_and_put(self):
        for place, wanted in enumerate((10, 20, 30)):
            self.value(("at", ROW, X), wanted, x=place)
            self.value(("at", ("text", "Ab~"), X), (65, 98, 126)[place], x=place)
            changed = [10, 20, 30]
            changed[place] = 5
            self.value(("put", ROW, X, ("num", 5)), tuple(changed), "row", x=place)

    def test_no_such_place(self):
        for place in (-1, -2, -3, -4, 3, 4, 10 ** 59, -10 ** 59):
            self.breaks(("at", ROW, X), x=place)
            self.breaks(("at", ("text", "abc"), X), x=place)
            self.breaks(("put", ROW, X, NUM), "row", x=place)
        self.breaks(("at", ("rows", ()), X))
        self.breaks(("at", ("text", ""), X))
        self.breaks(("put", ("rows", ()), X, X), "row")

    def test_breaks_within(self):
        bad = ("at", ROW, ("num", 3))
        for e in (("add", bad, NUM), ("add", NUM, bad), ("times", 0, bad), ("div", bad, 2), ("len", ("rows", (NUM, bad))),
                  ("at", ROW, bad), ("at", ("more", ROW, bad), NUM), ("of", ("new", "point", (NUM, bad)), "x"),
                  ("of", ("with", ("new", "point", (NUM, NUM)), "x", bad), "y"), ("sub", bad, bad),
                  ("len", ("put", ROW, NUM, bad)), ("len", ("put", ROW, bad, NUM))):
            self.breaks(e)

    def test_records(self):
        point = ("new", "point", (X, NUM))
        sheet = ("new", "sheet", (("text", "t"), point, ("rows", (X,))))
        self.value(point, (5, 1), "point", 5)
        self.value(sheet, ("t", (5, 1), (5,)), "sheet", 5)
        self.value(("of", point, "x"), 5, x=5)
        self.value(("of", point, "y"), 1, x=5)
        self.value(("of", ("of", sheet, "at"), "x"), 5, x=5)
        self.value(("of", sheet, "title"), "t", "text", 5)
        self.value(("of", sheet, "cells"), (5,), "row", 5)
        self.value(("with", point, "x", ("num", 9)), (9, 1), "point", 5)
        self.value(("with", point, "y", ("num", 9)), (5, 9), "point", 5)
        self.value(("with", sheet, "at", ("new", "point", (NUM, NUM))), ("t", (1, 1), (5,)), "sheet", 5)

    def test_conditions(self):
        for x in (0, 1, 2):
            self.holds(LESS, 1 < x, x)
            self.holds(("less", X, NUM), x < 1, x)
            self.holds(("same", X, NUM), x == 1, x)
        yes, no = ("same", NUM, NUM), ("less", NUM, NUM)
        self.holds(yes, True)
        self.holds(no, False)
        for one, first in ((yes, True), (no, False)):
            self.holds(("not", one), not first)
            for other, second in ((yes, True), (no, False)):
                self.holds(("and", one, other), first and second)
                self.holds(("or", one, other), first or second)

    def test_variables_stay_as_they_were(self):
        thing = program((("let", "r", ("put", ("var", "q"), ("num", 0), NUM)), ("give", ("var", "q"))),
                        (("q", "row"),), (("r", "row"),), "row")
        self.assertEqual(run(thing, "f", ((7,),), 9)[0], ("back", (7,)))


class Lines(Running):
    def ran(self, thing, values, ticks, end, spots=None, f="f"):
        before = copy.deepcopy((thing, values))
        told = run(thing, f, values, ticks)
        self.assertIs(type(told), tuple)
        self.assertIs(type(told[1]), list)
        self.assertEqual(told[0], end)
        if spots is not None:
            self.assertEqual(told[1], spots)
        self.assertEqual((thing, values), before)

    def test_void_body(self):
        for kind, wanted in (("num", 0), ("text", ""), ("row", ()), ("point", (0, 0)), ("sheet", ("", (0, 0), ()))):
            self.ran(program((), (), (), kind, RECORDS), (), 0, ("back", wanted), [])

    def test_a_body_that_ends(self):
        thing = program((("let", "x", ("num", 5)),), (("x", "num"),), (), "text")
        self.ran(thing, (1,), 1, ("back", ""), [("line", "f", 0)])
        self.ran(thing, (1,), 0, ("dry",), [])

    def test_locals_are_noughts(self):
        body = (("give", ("new", "sheet", (("var", "t"), ("var", "p"), ("more", ("var", "r"), ("var", "n"))))),)
        thing = program(body, (), (("t", "text"), ("p", "point"), ("r", "row"), ("n", "num")), "sheet", RECORDS)
        self.ran(thing, (), 1, ("back", ("", (0, 0), (0,))))

    def test_params_in_order(self):
        thing = program((("give", ("rows", (("var", "b"), ("var", "a")))),), (("a", "num"), ("b", "num")), (), "row")
        self.ran(thing, (1, 2), 1, ("back", (2, 1)))

    def test_let_and_give(self):
        thing = program((("let", "x", ("add", X, NUM)), ("give", X), ("let", "x", NUM)), (("x", "num"),))
        self.ran(thing, (5,), 2, ("back", 6), [("line", "f", 0), ("line", "f", 1)])
        self.ran(thing, (5,), 1, ("dry",), [("line", "f", 0)])
        self.ran(thing, (5,), 0, ("dry",), [])

    def test_say(self):
        thing = program((("say", "low", LESS), ("give", X)), (("x", "num"),))
        self.ran(thing, (2,), 2, ("back", 2), [("line", "f", 0), ("line", "f", 1)])
        self.ran(thing, (1,), 1, ("fails", "f", 0, "low"), [("line", "f", 0), ("breaks", "f", 0, "low")])
        self.ran(thing, (1,), 0, ("dry",), [])

    def test_if(self):
        thing = program((("if", LESS, (("let", "x", ("num", 8)), ("let", "y", X)), (("let", "y", ("num", 9)),)),
                         ("give", ("var", "y"))), (("x", "num"),), (("y", "num"),))
        self.ran(thing, (2,), 4, ("back", 8), [("line", "f", 0), ("way", "f", 0, True), ("line", "f", 1), ("line", "f", 2),
                                               ("line", "f", 4)])
        self.ran(thing, (1,), 3, ("back", 9), [("line", "f", 0), ("way", "f", 0, False), ("line", "f", 3), ("line", "f", 4)])
        self.ran(thing, (1,), 2, ("dry",), [("line", "f", 0), ("way", "f", 0, False), ("line", "f", 3)])
        self.ran(thing, (1,), 1, ("dry",), [("line", "f", 0), ("way", "f", 0, False)])

    def test_void_bodies(self):
        thing = program((("if", LESS, (), ()), ("while", LESS, ()), ("give", NUM)), (("x", "num"),))
        self.ran(thing, (1,), 3, ("back", 1), [("line", "f", 0), ("way", "f", 0, False), ("line", "f", 1),
                                               ("way", "f", 1, False), ("line", "f", 2)])
        self.ran(thing, (2,), 400, ("dry",), [("line", "f", 0), ("way", "f", 0, True), ("line", "f", 1), ("way", "f", 1, True)])

    def test_while(self):
        thing = program((("while", LESS, (("let", "x", ("sub", X, NUM)), ("let", "y", ("add", ("var", "y"), NUM)))),
                         ("give", ("var", "y"))), (("x", "num"),), (("y", "num"),))
        spots = [("line", "f", 0), ("way", "f", 0, True), ("line", "f", 1), ("line", "f", 2), ("way", "f", 0, False), ("line", "f", 3)]
        for x in range(2, 9):
            needed = 3 * (x - 1) + 2
            self.ran(thing, (x,), needed, ("back", x - 1), spots)
            self.ran(thing, (x,), needed + 1, ("back", x - 1), spots)
            self.ran(thing, (x,), needed - 1, ("dry",), spots[:5])
            self.ran(thing, (x,), needed - 2, ("dry",), spots[:4])
        self.ran(thing, (1,), 2, ("back", 0), [("line", "f", 0), ("way", "f", 0, False), ("line", "f", 3)])

    def test_give_within_a_while(self):
        thing = program((("while", LESS, (("give", X),)),), (("x", "num"),))
        self.ran(thing, (7,), 2, ("back", 7), [("line", "f", 0), ("way", "f", 0, True), ("line", "f", 1)])
        self.ran(thing, (7,), 1, ("dry",), [("line", "f", 0), ("way", "f", 0, True)])

    def test_range(self):
        bad = ("at", ROW, X)
        for line in (("let", "x", bad), ("give", bad), ("call", "x", "f", (bad,)), ("let", "x", ("len", ("put", ROW, X, X)))):
            thing = program((line,), (("x", "num"),))
            self.ran(thing, (3,), 1, ("fails", "f", 0, "range"), [("line", "f", 0), ("breaks", "f", 0, "range")])
            self.ran(thing, (3,), 0, ("dry",), [])

    def test_the_last_of_a_call_breaks(self):
        other = function((("give", ("var", "b")),), (("a", "num"), ("b", "num")), name="g")
        thing = program((("call", "x", "g", (NUM, ("at", ROW, X))), ("give", X)), (("x", "num"),), others=(other,))
        self.ran(thing, (3,), 9, ("fails", "f", 0, "range"), [("line", "f", 0), ("breaks", "f", 0, "range")])
        self.ran(thing, (2,), 9, ("back", 30), [("line", "f", 0), ("line", "g", 0), ("line", "f", 1)])

    def test_calls(self):
        twice = function((("let", "a", ("add", ("var", "a"), ("var", "a"))), ("give", ("var", "a"))), (("a", "num"),), name="g")
        thing = program((("call", "y", "g", (X,)), ("call", "y", "g", (("var", "y"),)), ("give", ("rows", (X, ("var", "y"))))),
                        (("x", "num"),), (("y", "num"),), "row", (), (twice,))
        spots = [("line", "f", 0), ("line", "g", 0), ("line", "g", 1), ("line", "f", 1), ("line", "f", 2)]
        self.ran(thing, (3,), 7, ("back", (3, 12)), spots)
        self.ran(thing, (3,), 6, ("dry",), spots[:4])
        self.ran(thing, (3,), 3, ("dry",), spots[:3])
        self.ran(thing, (3,), 1, ("dry",), spots[:1])
        self.ran(thing, (3,), 2, ("back", 6), spots[1:3], "g")

    def test_a_call_that_gives_nothing(self):
        other = function((("let", "a", NUM),), (), (("a", "num"),), "sheet", "g")
        thing = program((("call", "s", "g", ()), ("give", ("var", "s"))), (("s", "sheet"),), (), "sheet", RECORDS, (other,))
        self.ran(thing, (("t", (1, 2), (3,)),), 3, ("back", ("", (0, 0), ())))
        self.ran(thing, (("t", (1, 2), (3,)),), 2, ("dry",), [("line", "f", 0), ("line", "g", 0)])

    def test_a_call_of_a_void_body_takes_one_tick(self):
        thing = program((("call", "x", "g", ()),), (("x", "num"),), others=(function((), name="g"),))
        self.ran(thing, (4,), 1, ("back", 0), [("line", "f", 0)])

    def test_a_callee_has_variables_of_its_own(self):
        other = function((("let", "x", ("num", 99)),), (), (("x", "num"),), name="g")
        thing = program((("call", "y", "g", ()), ("give", X)), (("x", "num"),), (("y", "num"),), others=(other,))
        self.ran(thing, (4,), 3, ("back", 4))

    def test_a_callee_breaks(self):
        other = function((("let", "a", NUM), ("say", "low", ("less", NUM, ("var", "a")))), (), (("a", "num"),), name="g")
        thing = program((("call", "x", "g", ()), ("give", X)), (("x", "num"),), others=(other,))
        self.ran(thing, (4,), 9, ("fails", "g", 1, "low"),
                 [("line", "f", 0), ("line", "g", 0), ("line", "g", 1), ("breaks", "g", 1, "low")])

    def test_calls_within_calls_to_the_end(self):
        body = (("if", LESS, (("call", "x", "f", (("sub", X, NUM),)), ("give", ("add", X, ("num", 2)))), ()), ("give", ("num", 7)))
        thing = program(body, (("x", "num"),))
        spots = [("line", "f", 0), ("way", "f", 0, True), ("line", "f", 1), ("way", "f", 0, False), ("line", "f", 3), ("line", "f", 2)]
        self.ran(thing, (133,), 398, ("back", 7 + 2 * 132), spots)
        self.ran(thing, (133,), 397, ("dry",), spots)
        self.ran(thing, (134,), 400, ("dry",), spots)
        self.ran(thing, (300,), 400, ("dry",), spots[:3])
        endless = program((("call", "x", "f", (X,)),), (("x", "num"),))
        for ticks in (0, 1, 399, 400, 5000):
            self.ran(endless, (1,), ticks, ("dry",), [("line", "f", 0)][:ticks])

    def test_the_end_of_many_frames(self):
        body = (("if", LESS, (("call", "x", "f", (("sub", X, NUM),)),), ()),)
        self.ran(program(body, (("x", "num"),)), (200,), 399, ("back", 0))
        self.ran(program(body, (("x", "num"),)), (200,), 398, ("dry",))

    def test_each_spot_once_as_met_first(self):
        body = (("while", ("less", ("num", 0), X), (
            ("if", ("same", ("rest", X, 2), NUM), (("let", "y", NUM),), (("let", "y", X),)), ("let", "x", ("sub", X, NUM)))),)
        thing = program(body, (("x", "num"),), (("y", "num"),))
        self.ran(thing, (4,), 400, ("back", 0), [
            ("line", "f", 0), ("way", "f", 0, True), ("line", "f", 1), ("way", "f", 1, False), ("line", "f", 3), ("line", "f", 4),
            ("way", "f", 1, True), ("line", "f", 2), ("way", "f", 0, False)])

    def test_told_anew(self):
        thing = program((("give", NUM),))
        run(thing, "f", (), 1)[1].clear()
        self.assertEqual(run(thing, "f", (), 1)[1], [("line", "f", 0)])

    def test_the_whole(self):
        sheet = ("t", (1, 2), (4, 5))
        end, spots = run(WHOLE, "main", (1, "ab", (), sheet), 100)
        self.assertEqual(end, ("back", (4, 5)))
        self.assertEqual(run(WHOLE, "main", (2, "ab", (), sheet), 100)[0], ("fails", "helper", 3, "range"))
        self.assertEqual(spots[:6], [("line", "main", 0), ("line", "main", 1), ("line", "main", 2), ("line", "main", 3),
                                     ("way", "main", 3, False), ("line", "main", 9)])
        self.assertEqual(run(WHOLE, "main", (3, "ab", (), sheet), 100)[0], ("fails", "main", 2, "ready"))
        self.assertEqual(run(WHOLE, "none", (), 0), (("back", (("", (0, 0), ()), ("", (0, 0), ()))), []))


class ManyRuns(unittest.TestCase):
    def test_like_another_runner(self):
        ends = {"back": 0, "fails": 0, "dry": 0}
        for seed in range(400):
            maker = Maker(seed)
            thing = maker.program()
            known = set(spots_of(thing))
            for f in ("one", "two"):
                values = tuple(maker.value(kind) for kind in ("num", "text", "row", "sheet"))
                end, spots = run(thing, f, values, 60)
                self.assertEqual((end, spots), Other(thing, 60).told(f, values))
                self.assertLessEqual(set(spots), known)
                if end[0] == "back":
                    kind = [one[3] for one in thing[1] if one[0] == f][0]
                    self.assertIs(is_value(thing, kind, end[1]), True)
                ends[end[0]] += 1
        self.assertTrue(all(many > 50 for many in ends.values()), ends)

    def test_more_ticks_tell_the_same_and_perhaps_more(self):
        for seed in range(40):
            maker = Maker(seed)
            thing = maker.program()
            values = tuple(maker.value(kind) for kind in ("num", "text", "row", "sheet"))
            ahead = (("dry",), [])
            for ticks in range(30):
                told = run(thing, "one", values, ticks)
                self.assertEqual(told[1][:len(ahead[1])], ahead[1])
                if ahead[0] != ("dry",):
                    self.assertEqual(told, ahead)
                ahead = told


if __name__ == "__main__":
    unittest.main()
