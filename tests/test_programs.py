"""Right programs and the first that is not as told (points 3 and 11 to 15)."""

import copy
import unittest

from everyfork.errors import NoProgram
from everyfork.programs import right_program
from tests.samples import LESS, NUM, RECORDS, THINGS, WHOLE, X, Maker, function, nested, program

VARIABLES = (("x", "num"), ("t", "text"), ("r", "row"), ("s", "sheet"))
GIVE = ("give", NUM)
ROW = ("var", "r")
TEXT = ("var", "t")
SHEET = ("var", "s")


def of_line(statement):
    """A program with a let ahead of this line, so that it has the number 1."""
    return program((("let", "x", NUM), statement), VARIABLES, (("p", "point"),), "num", RECORDS)


def sum_of(many):
    """An expression of so many, an odd number."""
    e = NUM
    for _ in range(many // 2):
        e = ("add", e, X)
    return e


def all_of(many, c=LESS):
    """A condition of so many."""
    for _ in range(many - 1):
        c = ("not", c)
    return c


def whiles(deep, inner=()):
    """A body of statements so deep within one another."""
    for _ in range(deep):
        inner = (("while", LESS, inner),)
    return inner


class Refusals(unittest.TestCase):
    def right(self, thing):
        before = copy.deepcopy(thing)
        self.assertIs(right_program(thing), True)
        self.assertEqual(thing, before)

    def refused(self, thing, f, k):
        before = copy.deepcopy(thing)
        try:
            right_program(thing)
        except NoProgram as e:
            self.assertEqual((e.function, e.line), (f, k), thing)
            self.assertEqual(thing, before)
            return
        self.fail(f"let by: {thing!r}")

    def both(self, right, wrong):
        """Lines that are right, and some that are not."""
        for statement in right:
            self.right(of_line(statement))
        for statement in wrong:
            self.refused(of_line(statement), 0, 1)


class Wholes(Refusals):
    def test_right_ones(self):
        self.right(WHOLE)
        self.right(((), (("f", (), (), "num", ()),)))
        for seed in range(60):
            self.right(Maker(seed).program())

    def test_other_things(self):
        for thing in THINGS + (WHOLE[0], WHOLE[1], list(WHOLE), WHOLE + ((),), WHOLE[:1], nested(40, WHOLE)):
            self.refused(thing, -1, -1)

    def test_how_many_functions(self):
        many = tuple(function((GIVE,), name=name) for name in "abcdefg")
        self.right(((), many[:1]))
        self.right(((), many[:6]))
        self.refused(((), many), -1, -1)
        self.refused(((), ()), -1, -1)
        self.refused(((), list(many[:1])), -1, -1)
        for thing in THINGS:
            if not isinstance(thing, tuple) or len(thing) == 0:
                self.refused(((), thing), -1, -1)

    def test_how_many_records(self):
        many = tuple((name, (("x", "num"),)) for name in "abcde")
        self.right(program((), records=many[:4]))
        self.refused(program((), records=many), -1, -1)
        self.refused((list(many[:2]), (function(()),)), -1, -1)
        for thing in THINGS:
            if thing != ():
                self.refused((thing, (function(()),)), -1, -1)


class Records(Refusals):
    def of_records(self, *records):
        return (tuple(records), (function((GIVE,)),))

    def right_records(self, *records):
        self.right(self.of_records(*records))

    def refused_records(self, *records):
        self.refused(self.of_records(*records), -1, -1)

    def test_shapes(self):
        self.right_records(("a", (("x", "num"),)))
        for thing in THINGS + (["a", (("x", "num"),)], ("a", [("x", "num")]), ("a", (["x", "num"],)), ("a", ()), ("a",),
                               ("a", (("x", "num"),), ()), ("a", (("x",),)), ("a", (("x", "num", "num"),)),
                               ("a", ("x", "num")), ("a", (nested(40),)), ("a", (("x", nested(38)),)),
                               ("a", ((nested(38), "num"),))):
            self.refused_records(thing)
            self.refused_records(("b", (("x", "num"),)), thing)
            self.refused_records(thing, ("b", (("x", "num"),)))

    def test_names(self):
        for name in ("a", "abcdefgh", "let"):
            self.right_records((name, (("x", "num"),)))
            self.right_records(("a", ((name, "num"),)))
        for name in ("", "abcdefghi", "num", "text", "row", "gives", "rounds", "range", "A", "a1", 1, None, ("a",), ["a"]):
            self.refused_records((name, (("x", "num"),)))
            self.refused_records(("a", ((name, "num"),)))

    def test_unlike(self):
        self.right_records(("a", (("x", "num"),)), ("b", (("x", "num"),)))
        self.refused_records(("a", (("x", "num"),)), ("a", (("y", "num"),)))
        self.right_records(("a", (("x", "num"), ("y", "num"))))
        self.refused_records(("a", (("x", "num"), ("x", "text"))))
        self.right_records(("a", (("a", "num"),)))

    def test_kinds(self):
        for kind in ("num", "text", "row", "b"):
            self.right_records(("b", (("x", "num"),)), ("a", (("x", kind),)))
        for kind in ("a", "c", "", "nums", None, 0, True, ("num",), ["num"], "gives", "f"):
            self.refused_records(("b", (("x", "num"),)), ("a", (("x", kind),)), ("c", (("x", "num"),)))

    def test_how_many_fields(self):
        four = tuple((name, "num") for name in "abcd")
        self.right_records(("r", four[:1]))
        self.right_records(("r", four))
        self.refused_records(("r", four + (("e", "num"),)))
        self.refused_records(("r", ()))

    def test_how_many_parts(self):
        four = ("four", tuple((name, "num") for name in "abcd"))
        eight = ("eight", (("a", "four"), ("b", "four")))
        self.right_records(four, eight)
        self.refused_records(four, ("nine", (("a", "four"), ("b", "four"), ("c", "text"))))
        self.refused_records(four, eight, ("nine", (("a", "eight"), ("b", "row"))))
        self.right_records(four, eight, ("also", (("a", "eight"),)))
        self.refused_records(four, ("more", (("a", "four"), ("b", "four"), ("c", "four"), ("d", "four"))))

    def test_called_like_a_function(self):
        self.right_records(("f", (("f", "num"),)))
        self.right(((("f", (("f", "num"),)),), (("f", (("f", "f"),), (), "f", (("give", ("var", "f")),)),)))


class Heads(Refusals):
    def refused_head(self, head):
        """The function stands behind one that is wrong in a line, which is looked at later."""
        first = function((("let", "x", NUM),), name="a")
        self.refused((RECORDS, (first, head)), 1, -1)
        self.refused((RECORDS, (head, first)), 0, -1)
        self.refused((RECORDS, (function((), name="b"), head, ())), 1, -1)

    def test_shapes(self):
        head = ("f", (), (), "num", ())
        for thing in THINGS + (head[:4], head + ((),), list(head), nested(40, head)):
            self.refused_head(thing)

    def test_names(self):
        for name in ("f", "abcdefgh", "point", "let"):
            self.right((RECORDS, (function((), name=name),)))
        for name in ("", "abcdefghi", "num", "text", "row", "gives", "rounds", "range", "A", 1, True, None, ("f",), ["f"]):
            self.refused_head((name, (), (), "num", ()))

    def test_unlike(self):
        self.refused(((), (function(()), function(()))), 1, -1)
        self.refused(((), (function(()), function((), name="g"), function(()), function(()))), 2, -1)

    def test_bodies(self):
        for body in (None, 0, "", [], [GIVE], True):
            self.refused_head(("f", (), (), "num", body))

    def test_kinds_given(self):
        for kind in ("num", "text", "row", "point", "sheet", "book"):
            self.right((RECORDS, (("f", (), (), kind, ()),)))
        for kind in ("", "f", "points", "gives", None, 0, True, ("num",), ["num"], nested(40)):
            self.refused_head(("f", (), (), kind, ()))

    def test_variables(self):
        pair = (("x", "num"),)
        for thing in THINGS + (list(pair), (["x", "num"],), (("x",),), (("x", "num", "num"),), (("x", "none"),),
                               (("num", "num"),), (("X", "num"),), (("abcdefghi", "num"),), ((1, "num"),),
                               (("x", None),), (("x", ["num"]),), ((["x"], "num"),), (("gives", "num"),),
                               (("x", nested(39)),), ((nested(38), "num"),)):
            if thing != ():
                self.refused_head(("f", thing, (), "num", ()))
                self.refused_head(("f", (), thing, "num", ()))
                self.refused_head(("f", (("y", "num"),), thing, "num", ()))

    def test_kinds_of_variables(self):
        for kind in ("num", "text", "row", "point", "sheet", "book"):
            self.right((RECORDS, (("f", (("x", kind),), (("y", kind),), "num", ()),)))

    def test_unlike_variables(self):
        pair = (("x", "num"),)
        for name in ("f", "point"):
            self.right((RECORDS, (("f", ((name, "num"),), (), "num", ()),)))
        self.refused_head(("f", pair + pair, (), "num", ()))
        self.refused_head(("f", (), pair + pair, "num", ()))
        self.refused_head(("f", pair, pair, "num", ()))
        self.refused_head(("f", pair, (("x", "text"),), "num", ()))

    def test_how_many_variables(self):
        many = tuple((name, "num") for name in "abcdefghijklm")
        self.right((RECORDS, (("f", many[:4], many[4:10], "num", ()),)))
        self.refused_head(("f", many[:5], (), "num", ()))
        self.refused_head(("f", (), many[:7], "num", ()))
        self.right((RECORDS, (("f", (), many[:6], "num", ()),)))


class Expressions(Refusals):
    def told(self, kind, right, wrong):
        """Right expressions of a kind, and things that are none."""
        variable = {"num": "x", "text": "t", "row": "r", "sheet": "s", "point": "p"}[kind]
        self.both([("let", variable, e) for e in right], [("let", variable, e) for e in wrong])

    def test_other_things(self):
        wrong = [thing for thing in THINGS if thing not in (NUM, X)] + [
            ("num",), ("num", 1, 1), ("add", NUM), ("add", NUM, NUM, NUM), ("nums", 1), ["add", NUM, NUM],
            ("add", NUM, list(NUM)), ("less", NUM, NUM), LESS, GIVE, (("num", 1),), ("add", NUM, nested(38)), (1, 1),
            (None, 1), (["num"], 1), ("Num", 1), ("len",), ("let", "x", NUM)]
        self.told("num", [NUM], wrong)

    def test_num(self):
        self.told("num", [("num", 0), ("num", 10 ** 6), ("num", -10 ** 6)],
                  [("num", 10 ** 6 + 1), ("num", -10 ** 6 - 1), ("num", True), ("num", False), ("num", None), ("num", "1"),
                   ("num", (1,)), ("num", 10 ** 59), ("num", NUM)])

    def test_text(self):
        all_signs = "".join(chr(k) for k in range(32, 127) if k != 37)
        self.told("text", [("text", ""), ("text", "a" * 40), ("text", all_signs[:40]), ("text", all_signs[40:80]),
                           ("text", all_signs[80:])],
                  [("text", "a" * 41), ("text", 1), ("text", None), ("text", ("a",)), ("text", ["a"]), ("text", "%"),
                   ("text", "a\n"), NUM, ROW, ("text",), ("text", "a", "b")])

    def test_var(self):
        self.told("num", [X], [("var", "y"), ("var", "t"), ("var", "r"), ("var", "s"), ("var", "f"), ("var", 1),
                               ("var", None), ("var", ["x"]), ("var", ("x",)), ("var", X), ("var", "")])

    def test_add_and_sub(self):
        for word in ("add", "sub"):
            self.told("num", [(word, X, NUM)], [(word, X, TEXT), (word, TEXT, X), (word, ROW, ROW), (word, SHEET, X),
                                                (word, 1, X), (word, X, 1)])
            self.told("row", [], [(word, ROW, ROW)])
            self.told("text", [], [(word, TEXT, TEXT)])

    def test_times(self):
        self.told("num", [("times", 0, X), ("times", 10 ** 6, X), ("times", -10 ** 6, X)],
                  [("times", 10 ** 6 + 1, X), ("times", -10 ** 6 - 1, X), ("times", True, X), ("times", "2", X),
                   ("times", X, 2), ("times", NUM, X), ("times", 2, TEXT), ("times", 2, ROW), ("times", 2, 2)])

    def test_div_and_rest(self):
        for word in ("div", "rest"):
            self.told("num", [(word, X, 2), (word, X, 99)],
                      [(word, X, 1), (word, X, 100), (word, X, 0), (word, X, -2), (word, X, True), (word, X, NUM),
                       (word, 2, X), (word, ROW, 2), (word, TEXT, 2), (word, X, "2")])

    def test_len(self):
        self.told("num", [("len", ROW), ("len", TEXT), ("len", ("text", ""))],
                  [("len", X), ("len", SHEET), ("len", "t"), ("len", ROW, ROW)])
        self.told("row", [], [("len", ROW)])

    def test_at(self):
        self.told("num", [("at", ROW, X), ("at", TEXT, X), ("at", TEXT, ("at", ROW, NUM))],
                  [("at", X, X), ("at", SHEET, X), ("at", ROW, ROW), ("at", ROW, TEXT), ("at", ROW, 0), ("at", X, ROW)])
        self.told("text", [], [("at", TEXT, X)])

    def test_rows(self):
        self.told("row", [("rows", ()), ("rows", (X,)), ("rows", (NUM,) * 8)],
                  [("rows", (NUM,) * 9), ("rows", (ROW,)), ("rows", (NUM, TEXT)), ("rows", [NUM]), ("rows", NUM), ("rows",),
                   ("rows", (1,)), ("rows", NUM, NUM), ("rows", None), ("rows", "ab")])

    def test_put_and_more(self):
        self.told("row", [("put", ROW, X, NUM), ("more", ROW, X)],
                  [("put", TEXT, X, X), ("put", ROW, ROW, X), ("put", ROW, X, ROW), ("put", ROW, X), ("put", X, ROW, X),
                   ("more", TEXT, X), ("more", ROW, ROW), ("more", X, ROW), ("more", ROW), ("more", ROW, TEXT),
                   ("put", ROW, X, X, X), ("put", SHEET, X, X)])

    def test_signs(self):
        self.told("row", [("signs", TEXT)], [("signs", ROW), ("signs", X), ("signs", SHEET), ("signs", "ab")])
        self.told("text", [], [("signs", TEXT)])

    def test_of(self):
        self.told("text", [("of", SHEET, "title")], [("of", SHEET, "x"), ("of", SHEET, "cells"), ("of", SHEET, "at"),
                                                     ("of", "title", SHEET), ("of", TEXT, "title"), ("of", SHEET, 0),
                                                     ("of", SHEET, None), ("of", SHEET, ["title"]), ("of", SHEET)])
        self.told("num", [("of", ("of", SHEET, "at"), "x")], [("of", X, "x"), ("of", SHEET, "at"), ("of", ROW, "len")])

    def test_with(self):
        self.told("sheet", [("with", SHEET, "title", TEXT), ("with", SHEET, "at", ("var", "p"))],
                  [("with", SHEET, "title", X), ("with", SHEET, "none", X), ("with", SHEET, "at", SHEET),
                   ("with", X, "title", TEXT), ("with", SHEET, ("title",), TEXT), ("with", SHEET, "x", X),
                   ("with", SHEET, TEXT, "title"), ("with", SHEET, "title"), ("with", SHEET, "none", None)])
        self.told("text", [], [("with", SHEET, "title", TEXT)])

    def test_new(self):
        self.told("point", [("new", "point", (X, NUM))],
                  [("new", "point", (X,)), ("new", "point", (X, X, X)), ("new", "point", ()), ("new", "point", [X, X]),
                   ("new", "point", (X, TEXT)), ("new", "none", (X, X)), ("new", "none", ()), ("new", "num", ()),
                   ("new", None, (X, X)), ("new", ("point",), (X, X)), ("new", ["point"], (X, X)), ("new", "point", X),
                   ("new", "sheet", (TEXT, ("var", "p"), ROW)), ("new", "point", (1, 2)), ("new", "f", (X, X))])
        self.told("num", [], [("new", "num", ()), ("add", X, ("new", "num", ())), ("len", ("new", "row", ()))])
        self.told("sheet", [("new", "sheet", (TEXT, ("var", "p"), ROW))], [("new", "sheet", (TEXT, ROW, ("var", "p")))])

    def test_new_of_one_field(self):
        body = (("let", "x", ("of", ("new", "one", (X,)), "x")),)
        records = (("one", (("x", "num"),)),)
        self.right(program(body, (("x", "num"),), records=records))
        self.refused(program(body, (("x", "num"),), records=(("two", (("x", "num"),)),)), 0, 0)

    def test_how_many(self):
        self.told("num", [sum_of(11), ("times", 2, sum_of(11))], [sum_of(13), ("times", 2, ("times", 2, sum_of(11)))])
        self.told("row", [("rows", (sum_of(3), sum_of(7), X))], [("rows", (sum_of(3), sum_of(7), X, X))])
        self.told("point", [("new", "point", (sum_of(9), ("len", ROW)))], [("new", "point", (sum_of(9), sum_of(3)))])

    def test_deep(self):
        e = NUM
        for _ in range(11):
            e = ("times", 2, e)
        self.told("num", [e], [("times", 2, e)])
        for _ in range(30):
            e = ("times", 2, e)
        self.told("num", [], [e])
        rows = NUM
        for _ in range(19):
            rows = ("rows", (rows,))
        self.told("row", [], [rows])

    def test_each_of_a_call_has_its_own_twelve(self):
        other = function((), (("a", "num"), ("b", "num")), name="g")
        twelve = ("times", 2, sum_of(11))
        body = (("call", "x", "g", (twelve, twelve)),)
        self.right(program(body, (("x", "num"),), others=(other,)))
        body = (("call", "x", "g", (twelve, sum_of(13))),)
        self.refused(program(body, (("x", "num"),), others=(other,)), 0, 0)


class Conditions(Refusals):
    def told(self, right, wrong):
        """Right conditions and things that are none, in each statement that has one."""
        def lines(c):
            return [("say", "low", c), ("if", c, (), ()), ("while", c, ())]
        self.both([line for c in right for line in lines(c)], [line for c in wrong for line in lines(c)])

    def test_right_ones(self):
        same = ("same", X, NUM)
        self.told([LESS, same, ("and", LESS, same), ("or", same, LESS), ("not", same),
                   ("same", ("len", ("more", ROW, X)), ("of", ("of", SHEET, "at"), "y"))], [])

    def test_other_things(self):
        self.told([], list(THINGS) + [
            X, GIVE, ("less", X), ("less", X, X, X), ["less", X, X], ("less", X, list(X)), ("less", 1, 2), ("not",),
            ("not", LESS, LESS), ("and", LESS), ("or", LESS, LESS, LESS), ("and", LESS, X), ("or", X, LESS), ("and", X, LESS),
            ("or", LESS, X), ("not", X),
            ("less", LESS, LESS), ("same", X, LESS), ("equal", X, X), ("not", list(LESS)), ("and", LESS, nested(38)),
            ("less", X, nested(38)), (None, X, X), (True,), ("less", X, None), ("let", "x", NUM)])

    def test_nums_alone(self):
        self.told([], [("less", TEXT, TEXT), ("same", TEXT, TEXT), ("same", ROW, ROW), ("same", X, ROW), ("less", SHEET, X),
                       ("same", SHEET, SHEET), ("less", X, ("var", "y")), ("less", X, ("num", 10 ** 6 + 1))])

    def test_without_at_and_put(self):
        at, put = ("at", ROW, X), ("put", ROW, X, X)
        self.told([("less", X, ("len", ROW))],
                  [("less", at, X), ("same", X, at), ("less", X, ("len", put)), ("same", ("add", X, ("times", 2, at)), X),
                   ("not", ("less", at, X)), ("and", LESS, ("same", X, ("len", ("rows", (at,))))),
                   ("less", ("at", TEXT, X), X)])

    def test_how_many(self):
        three = ("or", LESS, ("same", X, X))
        self.told([all_of(6), ("and", three, ("not", LESS)), ("not", ("not", ("not", three)))],
                  [all_of(7), ("and", three, three), ("not", ("and", three, ("not", LESS)))])

    def test_deep(self):
        self.told([], [all_of(38)])

    def test_each_expression_has_its_own_twelve(self):
        twelve = ("times", 2, sum_of(11))
        c = ("less", twelve, twelve)
        self.told([c, ("and", c, ("not", ("or", c, c)))], [("less", sum_of(13), X), ("and", c, ("same", X, sum_of(13)))])


class Statements(Refusals):
    def test_other_things(self):
        self.both([GIVE], list(THINGS) + [
            ("give",), ("give", NUM, NUM), ["give", NUM], ("let", "x"), ("let", "x", NUM, NUM), ("say", "low"),
            ("if", LESS, ()), ("if", LESS, (), (), ()), ("while", LESS), ("while", LESS, (), ()), ("call", "x", "f"),
            ("gives", NUM), LESS, (None, NUM), (("give", NUM),), (["give"], NUM), nested(40, GIVE), ("Let", "x", NUM)])

    def test_let(self):
        self.both([("let", "x", X), ("let", "t", TEXT), ("let", "r", ROW), ("let", "s", SHEET)],
                  [("let", "x", TEXT), ("let", "t", X), ("let", "y", X), ("let", "y", ("var", "y")), ("let", X, X),
                   ("let", ["x"], X), ("let", None, X), ("let", "x", None), ("let", 0, X), ("let", "f", X),
                   ("let", "y", None), ("let", "y", ("num", "a"))])

    def test_say(self):
        self.both([("say", "a", LESS), ("say", "abcdefgh", LESS), ("say", "x", LESS), ("say", "point", LESS)],
                  [("say", word, LESS) for word in ("", "abcdefghi", "range", "num", "gives", "A", 1, None, ("a",), ["a"])])

    def test_call(self):
        other = function((), (("a", "num"), ("b", "text")), kind="row", name="g")
        void = function((), kind="text", name="h")
        def of_call(*call):
            return program((("let", "x", NUM), ("call",) + call), VARIABLES, (), "num", RECORDS, (other, void))
        for call in (("r", "g", (X, TEXT)), ("t", "h", ()), ("x", "f", (X, TEXT, ROW, SHEET)), ("r", "g", (sum_of(11), TEXT))):
            self.right(of_call(*call))
        for call in (("r", "g", (X,)), ("r", "g", (X, TEXT, X)), ("r", "g", ()), ("r", "g", (TEXT, X)), ("r", "g", [X, TEXT]),
                     ("x", "g", (X, TEXT)), ("y", "g", (X, TEXT)), ("r", "none", (X, TEXT)), ("r", "point", (X, X)),
                     ("r", ["g"], (X, TEXT)), ("r", None, (X, TEXT)), (["r"], "g", (X, TEXT)), (None, "g", (X, TEXT)),
                     ("r", "g", (X, None)), ("r", "g", None), ("r", "g", (X, sum_of(13))), ("t", "h", (X,)), ("r", "h", ()),
                     ("r", "g", (X, ("text", "%"))), ("y", "none", ()), ("r", "g", (nested(38), TEXT))):
            self.refused(of_call(*call), 0, 1)

    def test_call_of_a_function_behind(self):
        first = function((("call", "x", "g", ()),), (("x", "num"),))
        self.right(((), (first, function((), name="g"))))
        self.refused(((), (first, function((), name="h"))), 0, 0)

    def test_give(self):
        self.both([("give", X)], [("give", TEXT), ("give", ROW), ("give", SHEET), ("give", None), ("give", 1)])
        for kind, e in (("text", TEXT), ("row", ROW), ("sheet", SHEET)):
            self.right(program((("give", e),), VARIABLES, (), kind, RECORDS))
            self.refused(program((("give", X),), VARIABLES, (), kind, RECORDS), 0, 0)

    def test_bodies(self):
        self.both([("if", LESS, (), ()), ("if", LESS, (GIVE,), (GIVE,)), ("while", LESS, (GIVE,))],
                  [("if", LESS, [], ()), ("if", LESS, (), []), ("if", LESS, None, ()), ("if", LESS, (), "a"), ("while", LESS, []),
                   ("while", LESS, None), ("while", LESS, True), ("if", LESS, (None,), []), ("while", LESS, [GIVE])])

    def test_lines_within(self):
        body = (GIVE, ("if", LESS, (GIVE, ("while", LESS, (GIVE, None))), (GIVE,)), GIVE)
        self.refused(program(body, (("x", "num"),)), 0, 5)
        body = (GIVE, ("if", LESS, (GIVE, ("while", LESS, (GIVE,))), (GIVE, None)), None)
        self.refused(program(body, (("x", "num"),)), 0, 6)
        body = (GIVE, ("if", LESS, (GIVE, ("while", LESS, (GIVE,))), (GIVE,)), GIVE, None, GIVE)
        self.refused(program(body, (("x", "num"),)), 0, 7)

    def test_how_many_lines(self):
        self.right(program((GIVE,) * 30))
        self.refused(program((GIVE,) * 31), 0, 30)
        self.refused(program((GIVE,) * 30 + (None,)), 0, 30)
        self.refused(program((GIVE,) * 60), 0, 30)
        self.refused(program((GIVE,) * 29 + (None, GIVE, GIVE)), 0, 29)
        loop = ("while", LESS, (GIVE,) * 14)
        self.right(program((loop, loop), (("x", "num"),)))
        self.refused(program((loop, loop, GIVE), (("x", "num"),)), 0, 30)
        fork = ("if", LESS, (GIVE,) * 14, (GIVE,) * 15)
        self.right(program((fork,), (("x", "num"),)))
        self.refused(program((("if", LESS, (GIVE,) * 14, (GIVE,) * 16),), (("x", "num"),)), 0, 30)

    def test_how_deep(self):
        self.right(program(whiles(5), (("x", "num"),)))
        self.right(program(whiles(4, (GIVE,)), (("x", "num"),)))
        self.refused(program(whiles(6), (("x", "num"),)), 0, 5)
        self.refused(program(whiles(5, (GIVE,)), (("x", "num"),)), 0, 5)
        self.refused(program(whiles(5, (None,)), (("x", "num"),)), 0, 5)
        self.refused(program((GIVE,) + whiles(5, (GIVE,)), (("x", "num"),)), 0, 6)
        self.refused(program(whiles(18), (("x", "num"),)), 0, 5)
        fork = ("if", LESS, (), whiles(4, (GIVE,)))
        self.refused(program((fork,), (("x", "num"),)), 0, 5)
        self.right(program((("if", LESS, (), whiles(4)),), (("x", "num"),)))

    def test_a_wrong_line_ahead_of_what_is_too_deep_or_too_many(self):
        self.refused(program((None,) + whiles(6) + (GIVE,) * 40, (("x", "num"),)), 0, 0)
        self.refused(program(whiles(6) + (None,), (("x", "num"),)), 0, 5)


class Order(Refusals):
    def test_records_ahead_of_functions(self):
        self.refused(((None,), (None,)), -1, -1)
        self.refused(((), ()), -1, -1)

    def test_heads_ahead_of_lines(self):
        wrong = function((GIVE, None))
        self.refused(((), (wrong, function((None,), name="g"))), 0, 1)
        self.refused(((), (wrong, None)), 1, -1)
        self.refused(((), (wrong, function((), name="g"), function((), kind="none", name="h"))), 2, -1)
        self.refused(((), (wrong, wrong)), 1, -1)

    def test_function_by_function(self):
        fine = function((GIVE,))
        self.refused(((), (fine, function((GIVE, GIVE, None), name="g"), function((None,), name="h"))), 1, 2)
        six = tuple(function((GIVE,), name=name) for name in "abcde")
        self.refused(((), six + (function((GIVE, None)),)), 5, 1)

    def test_first_head(self):
        self.refused(((), (None, None)), 0, -1)
        self.refused(((), (function(()), None, None)), 1, -1)

    def test_many_things_in_every_place(self):
        """Whatever stands in the place of anything, True or NoProgram is told, and nothing else comes."""
        def swapped(thing, other):
            if isinstance(thing, tuple):
                for place, inner in enumerate(thing):
                    yield thing[:place] + (other,) + thing[place + 1:]
                    for new in swapped(inner, other):
                        yield thing[:place] + (new,) + thing[place + 1:]
        refused = 0
        for other in (None, True, 0, "", "x", (), [], ("x", "num"), nested(30), NUM, LESS, GIVE):
            for thing in swapped(WHOLE, other):
                try:
                    self.assertIs(right_program(thing), True)
                except NoProgram:
                    refused += 1
        self.assertGreater(refused, 1000)


if __name__ == "__main__":
    unittest.main()
