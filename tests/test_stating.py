"""Terms of kinds and expressions, what expressions ask (points 50, 51), and alternatives of conditions (point 52)."""

import copy
import unittest

from everyfork.alternatives import alternatives
from everyfork.facts import row_of, value_of
from everyfork.programs import right_program
from everyfork.stating import asked_by, noughts, terms_of, unknowns_from
from everyfork.values import flat
from tests.formed import Former, form, is_form_by_shape
from tests.samples import RECORDS, Maker, function, program
from tests.test_running import Broken, Other

ZERO = (0, ())
VARIABLES = (("n", "num"), ("t", "text"), ("r", "row"), ("s", "sheet"), ("i", "num"), ("u", "text"), ("q", "row"), ("p", "point"), ("b", "book"))
PROGRAM = (RECORDS, (("f", VARIABLES[:4], VARIABLES[4:], "num", ()), ("g", (("n", "row"),), (), "num", ())))


def terms_from(variables, count=0):
    """Terms of variables, all unknowns."""
    told = []
    for variable, kind in variables:
        terms, count = unknowns_from(PROGRAM, kind, count)
        told.append((variable, terms))
    return tuple(told)


TERMS = terms_from(VARIABLES)
# n 0, t 1, r 2, s 3 to 6, i 7, u 8, q 9, p 10 and 11, b 12 to 19.
N, T, R, S, I, P, B = [("var", name) for name in "ntrsipb"]
FN, FI = form(0, (("n", 0), 1)), form(0, (("n", 7), 1))
RT, RR = ("t", 1), ("r", 2)


def num(number):
    return ("num", number)


def at(row, place, often=1):
    return (("at", row, place), often)


class Kinds(unittest.TestCase):
    def test_unknowns(self):
        self.assertEqual(unknowns_from(PROGRAM, "num", 0), ((form(0, (("n", 0), 1)),), 1))
        self.assertEqual(unknowns_from(PROGRAM, "num", 7), ((form(0, (("n", 7), 1)),), 8))
        self.assertEqual(unknowns_from(PROGRAM, "row", 3), ((("r", 3),), 4))
        self.assertEqual(unknowns_from(PROGRAM, "text", 3), ((("t", 3),), 4))
        self.assertEqual(unknowns_from(PROGRAM, "point", 3), ((form(0, (("n", 3), 1)), form(0, (("n", 4), 1))), 5))
        sheet = lambda k: (("t", k), form(0, (("n", k + 1), 1)), form(0, (("n", k + 2), 1)), ("r", k + 3))
        self.assertEqual(unknowns_from(PROGRAM, "sheet", 5), (sheet(5), 9))
        self.assertEqual(unknowns_from(PROGRAM, "book", 1), (sheet(1) + sheet(5), 9))

    def test_noughts(self):
        void = ("rows", ())
        self.assertEqual(noughts(PROGRAM, "num"), (ZERO,))
        self.assertEqual(noughts(PROGRAM, "row"), (void,))
        self.assertEqual(noughts(PROGRAM, "text"), (void,))
        self.assertEqual(noughts(PROGRAM, "point"), (ZERO, ZERO))
        self.assertEqual(noughts(PROGRAM, "book"), (void, ZERO, ZERO, void) * 2)


class Terms(unittest.TestCase):
    def told(self, e, wanted, asked=(), f="f", terms=TERMS):
        before = copy.deepcopy((PROGRAM, terms, e))
        self.assertEqual(terms_of(PROGRAM, f, terms, e), wanted)
        told = asked_by(PROGRAM, f, terms, e)
        self.assertEqual(told, list(asked))
        self.assertIs(type(told), list)
        told.append(None)
        self.assertEqual(asked_by(PROGRAM, f, terms, e), list(asked))
        self.assertEqual((PROGRAM, terms, e), before)

    def test_numbers_and_texts(self):
        for number in (0, -7, 10 ** 6):
            self.told(num(number), ((number, ()),))
        self.told(("text", ""), (("rows", ()),))
        self.told(("text", "a ~"), (("rows", ((97, ()), (32, ()), (126, ()))),))

    def test_variables(self):
        for variable, terms in TERMS:
            self.told(("var", variable), terms)
        self.told(("var", "n"), (("r", 5),), (), "g", (("n", (("r", 5),)),))

    def test_records(self):
        sheet, book, point = dict(TERMS)["s"], dict(TERMS)["b"], dict(TERMS)["p"]
        self.told(("of", S, "title"), sheet[:1])
        self.told(("of", S, "at"), sheet[1:3])
        self.told(("of", S, "cells"), sheet[3:])
        self.told(("of", B, "two"), book[4:])
        self.told(("of", ("of", ("of", B, "two"), "at"), "y"), book[6:7])
        self.told(("with", S, "title", T), (RT,) + sheet[1:])
        self.told(("with", S, "at", P), sheet[:1] + point + sheet[3:])
        self.told(("with", S, "cells", R), sheet[:3] + (RR,))
        self.told(("with", B, "one", S), sheet + book[4:])
        self.told(("with", B, "two", ("of", B, "one")), book[:4] + book[:4])
        self.told(("with", P, "y", N), (point[0], FN))
        self.told(("new", "point", (N, num(3))), (FN, (3, ())))
        self.told(("new", "sheet", (T, P, R)), (RT,) + point + (RR,))
        self.told(("of", ("new", "sheet", (T, P, R)), "cells"), (RR,))
        self.told(("new", "book", (S, ("with", S, "title", T))), sheet + (RT,) + sheet[1:])

    def test_sums(self):
        self.told(("add", N, I), (form(0, (("n", 0), 1), (("n", 7), 1)),))
        self.told(("add", N, N), (form(0, (("n", 0), 2)),))
        self.told(("sub", N, I), (form(0, (("n", 0), 1), (("n", 7), -1)),))
        self.told(("sub", N, N), (ZERO,))
        self.told(("sub", num(1), ("add", N, num(4))), (form(-3, (("n", 0), -1)),))
        self.told(("times", 5, ("add", N, num(2))), (form(10, (("n", 0), 5)),))
        self.told(("times", 0, N), (ZERO,))
        self.told(("times", -1, N), (form(0, (("n", 0), -1)),))

    def test_quotients(self):
        self.told(("div", num(-7), 2), ((-4, ()),))
        self.told(("rest", num(-7), 2), ((1, ()),))
        quotient = ("div", form(3, (("n", 0), 1)), 5)
        self.told(("div", ("add", N, num(3)), 5), (form(0, (quotient, 1)),))
        self.told(("rest", ("add", N, num(3)), 5), (form(3, (("n", 0), 1), (quotient, -5)),))
        self.told(("rest", ("sub", N, N), 99), (ZERO,))

    def test_lengths(self):
        self.told(("len", R), (form(0, (("len", RR), 1)),))
        self.told(("len", T), (form(0, (("len", RT), 1)),))
        self.told(("len", ("text", "abc")), ((3, ()),))
        self.told(("len", ("more", R, N)), (form(1, (("len", RR), 1)),))
        self.told(("len", ("rows", (N, N))), ((2, ()),))
        self.told(("len", ("signs", T)), (form(0, (("len", RT), 1)),))

    def test_rows(self):
        self.told(("rows", ()), (("rows", ()),))
        self.told(("rows", (N, num(2), I)), (("rows", (FN, (2, ()), FI)),))
        self.told(("more", R, N), (("more", RR, FN),))
        self.told(("more", ("rows", ()), N), (("more", ("rows", ()), FN),))
        self.told(("signs", T), (RT,))
        self.told(("signs", ("text", "b")), (("rows", ((98, ()),)),))

    def test_at(self):
        inside = lambda row, place: (place, form(-1 - place[0], (("len", row), 1), *[(thing, -often) for thing, often in place[1]]))
        self.told(("at", R, N), (form(0, at(RR, FN)),), inside(RR, FN))
        self.told(("at", T, num(0)), (form(0, at(RT, ZERO)),), inside(RT, ZERO))
        self.told(("at", ("text", "abc"), num(1)), ((98, ()),), ((1, ()), (1, ())))
        self.told(("at", ("text", "abc"), num(3)), (ZERO,), ((3, ()), (-1, ())))
        self.told(("at", ("text", "abc"), num(-1)), (ZERO,), ((-1, ()), (3, ())))
        self.told(("at", ("rows", (N, I)), num(1)), (FI,), ((1, ()), ZERO))
        self.told(("at", ("rows", (N, I)), N), (form(0, at(("rows", (FN, FI)), FN)),), (FN, form(1, (("n", 0), -1))))
        self.told(("at", ("more", R, N), I), (form(0, at(("more", RR, FN), FI)),), (FI, form(0, (("len", RR), 1), (("n", 7), -1))))

    def test_put(self):
        self.told(("put", R, N, I), (("put", RR, FN, FI),), (FN, form(-1, (("len", RR), 1), (("n", 0), -1))))
        self.told(("put", ("rows", (N,)), num(0), num(5)), (("put", ("rows", (FN,)), ZERO, (5, ())),), (ZERO, ZERO))

    def test_asked_in_order(self):
        """What stands within first, from left to right."""
        r = lambda place: form(-1 - place[0], (("len", RR), 1), *[(thing, -often) for thing, often in place[1]])
        inner = ("at", R, num(1))
        one = form(0, at(RR, (1, ())))
        self.told(("at", R, inner), (form(0, at(RR, one)),), ((1, ()), r((1, ())), one, r(one)))
        first, second, third = ("at", R, num(1)), ("at", R, num(2)), ("at", R, num(3))
        asks = [((k, ()), r((k, ()))) for k in (1, 2, 3)]
        numbers = [form(0, at(RR, (k, ()))) for k in (1, 2, 3)]
        self.told(("add", first, second), (form(0, *numbers[0][1], *numbers[1][1]),), asks[0] + asks[1])
        self.told(("put", ("more", R, first), second, third), (("put", ("more", RR, numbers[0]), numbers[1], numbers[2]),),
                  asks[0] + asks[1] + asks[2] + (numbers[1], form(0, (("len", RR), 1), (numbers[1][1][0][0], -1))))
        self.told(("rows", (second, first, third)), (("rows", (numbers[1], numbers[0], numbers[2])),), asks[1] + asks[0] + asks[2])
        self.told(("new", "point", (second, first)), (numbers[1], numbers[0]), asks[1] + asks[0])
        self.told(("with", ("new", "point", (second, first)), "x", third), (numbers[2], numbers[0]), asks[1] + asks[0] + asks[2])
        self.told(("of", ("new", "point", (second, first)), "x"), (numbers[1],), asks[1] + asks[0])
        self.told(("times", 0, first), (ZERO,), asks[0])
        self.told(("sub", first, first), (ZERO,), asks[0] + asks[0])
        self.told(("div", first, 2), (form(0, (("div", numbers[0], 2), 1)),), asks[0])
        self.told(("len", ("put", R, num(1), num(0))), (form(0, (("len", RR), 1)),), asks[0])

    def test_asks_nothing(self):
        for e in (N, T, num(1), ("add", N, I), ("rest", N, 2), ("len", R), ("more", R, N), ("signs", T), ("of", S, "at"), ("rows", (N, N))):
            self.assertEqual(asked_by(PROGRAM, "f", TERMS, e), [])


def made_terms(former, kind):
    """Terms of a kind over a few unknowns, not only unknowns themselves."""
    told = []
    for term in noughts(PROGRAM, kind):
        told.append(former.form(3) if term == ZERO else former.row(3))
    return tuple(told)


def text_term(former):
    """A term of a text."""
    signs = tuple((former.random.choice((32, 36, 38, 97)), ()) for _ in range(former.random.randint(0, 3)))
    return former.random.choice((("t", 0), ("t", 1), ("rows", signs)))


def variables_by(former, texts_at=(("t", 0), ("u", 0), ("s", 0), ("b", 0), ("b", 4))):
    """Terms of all variables of PROGRAM's f, made."""
    told = []
    for variable, kind in VARIABLES:
        terms = list(made_terms(former, kind))
        for name, place in texts_at:
            if name == variable:
                terms[place] = text_term(former)
        told.append((variable, tuple(terms)))
    return tuple(told)


def value_by(kind, terms, model):
    """The value of a kind whose terms have their values in a model, and the terms that are left."""
    if kind == "num":
        return value_of(terms[0], model), terms[1:]
    if kind == "row":
        return row_of(terms[0], model), terms[1:]
    if kind == "text":
        return "".join(chr(number) for number in row_of(terms[0], model)), terms[1:]
    told = []
    for _, inner in dict(RECORDS)[kind]:
        value, terms = value_by(inner, terms, model)
        told.append(value)
    return tuple(told), terms


class InModels(unittest.TestCase):
    def held(self, terms, model):
        return {name: (kind, value_by(kind, dict(terms)[name], model)[0]) for name, kind in VARIABLES}

    def setting(self, seed):
        """Terms of the variables, and models."""
        maker, former = Maker(seed), Former(seed, numbers=(("n", 0), ("n", 1)), rows=(("r", 0), ("t", 0), ("t", 1)), most=3)
        return maker, terms_from(VARIABLES) if seed % 3 == 0 else variables_by(former), former

    def model(self, former, seed):
        if seed % 3:
            return former.model()
        told = {}
        for _, terms in TERMS:
            for term in terms:
                unknown = term if term[0] in ("r", "t") else term[1][0][0]
                many = range(former.random.randint(0, 3))
                told[unknown] = former.number() if unknown[0] == "n" else tuple(
                    former.random.choice((32, 97)) if unknown[0] == "t" else former.number() for _ in many)
        return told

    def test_expressions(self):
        right_program(PROGRAM)
        failed, fine = 0, 0
        for seed in range(900):
            maker, terms, former = self.setting(seed)
            kind = maker.random.choice(Maker.KINDS)
            e = maker.expression(kind, 12)
            right_program((RECORDS, (("f", VARIABLES[:4], VARIABLES[4:], kind, (("give", e),)),)))
            told, asked = terms_of(PROGRAM, "f", terms, e), asked_by(PROGRAM, "f", terms, e)
            self.assertIs(type(told), tuple)
            self.assertEqual(len(told), len(noughts(PROGRAM, kind)))
            self.assertTrue(all(is_form_by_shape(one) for one in asked))
            for _ in range(4):
                model = self.model(former, seed)
                try:
                    value = Other(PROGRAM, 1).value("f", 0, self.held(terms, model), e)[1]
                except Broken:
                    self.assertTrue([one for one in asked if value_of(one, model) < 0], (e, model))
                    failed += 1
                else:
                    self.assertFalse([one for one in asked if value_of(one, model) < 0], (e, model))
                    self.assertEqual(value_by(kind, told, model), (value, ()))
                    self.assertEqual(flat(PROGRAM, kind, value), flat(PROGRAM, kind, value_by(kind, told, model)[0]))
                    fine += 1
        self.assertGreater(failed, 100)
        self.assertGreater(fine, 1500)

    def test_conditions(self):
        both = {True: 0, False: 0}
        for seed in range(600):
            maker, terms, former = self.setting(seed)
            c = maker.condition(6)
            right_program((RECORDS, (("f", VARIABLES[:4], VARIABLES[4:], "num", (("if", c, (), ()),)),)))
            before = copy.deepcopy((PROGRAM, terms, c))
            told = {truth: alternatives(PROGRAM, "f", terms, c, truth) for truth in (True, False)}
            self.assertEqual((PROGRAM, terms, c), before)
            for truth in (True, False):
                self.assertIs(type(told[truth]), list)
                for one in told[truth]:
                    self.assertIs(type(one), tuple)
                    self.assertTrue(all(is_form_by_shape(form) for form in one))
            for _ in range(4):
                model = self.model(former, seed)
                wanted = Other(PROGRAM, 1).holds("f", 0, self.held(terms, model), c)
                for truth in (True, False):
                    many = [one for one in told[truth] if all(value_of(form, model) >= 0 for form in one)]
                    self.assertEqual(len(many), 1 if truth == wanted else 0, (c, truth, model))
                both[wanted] += 1
        self.assertGreater(min(both.values()), 500)


class Alternatives(unittest.TestCase):
    def told(self, c, yes, no):
        for truth, wanted in ((True, yes), (False, no)):
            told = alternatives(PROGRAM, "f", TERMS, c, truth)
            self.assertEqual(told, wanted, (c, truth))
            told.clear()
            self.assertEqual(alternatives(PROGRAM, "f", TERMS, c, truth), wanted)

    # n and i compared: b less a less 1, and so on.
    BELOW = form(-1, (("n", 0), -1), (("n", 7), 1))
    ABOVE = form(-1, (("n", 0), 1), (("n", 7), -1))
    UP = form(0, (("n", 0), 1), (("n", 7), -1))
    DOWN = form(0, (("n", 0), -1), (("n", 7), 1))
    LESS = ("less", N, I)
    SAME = ("same", N, I)
    # n is below 3, and 5 below i.
    A = ("less", N, num(3))
    A1, A0 = form(2, (("n", 0), -1)), form(-3, (("n", 0), 1))
    B = ("less", num(5), I)
    B1, B0 = form(-6, (("n", 7), 1)), form(5, (("n", 7), -1))
    C = ("same", ("len", R), num(2))
    C1 = (form(-2, (("len", RR), 1)), form(2, (("len", RR), -1)))
    C0 = (form(-3, (("len", RR), 1)), form(1, (("len", RR), -1)))

    def test_compared(self):
        self.told(self.LESS, [(self.BELOW,)], [(self.UP,)])
        self.told(self.SAME, [(self.UP, self.DOWN)], [(self.ABOVE,), (self.BELOW,)])
        self.told(("less", num(1), num(2)), [(ZERO,)], [((-1, ()),)])
        self.told(("same", num(1), num(3)), [((-2, ()), (2, ()))], [((-3, ()),), ((1, ()),)])
        quotient = (("div", FN, 2), 1)
        self.told(("less", ("div", N, 2), ("add", I, num(1))), [(form(0, (("n", 7), 1), (quotient[0], -1)),)], [(form(-1, quotient, (("n", 7), -1)),)])

    def test_not(self):
        self.told(("not", self.LESS), [(self.UP,)], [(self.BELOW,)])
        self.told(("not", self.SAME), [(self.ABOVE,), (self.BELOW,)], [(self.UP, self.DOWN)])
        self.told(("not", ("not", self.SAME)), [(self.UP, self.DOWN)], [(self.ABOVE,), (self.BELOW,)])

    def test_and(self):
        self.told(("and", self.A, self.B), [(self.A1, self.B1)], [(self.A0,), (self.A1, self.B0)])
        self.told(("and", self.A, self.C), [(self.A1,) + self.C1], [(self.A0,), (self.A1, self.C0[0]), (self.A1, self.C0[1])])
        self.told(("and", self.C, self.A), [self.C1 + (self.A1,)], [(self.C0[0],), (self.C0[1],), self.C1 + (self.A0,)])

    def test_or(self):
        self.told(("or", self.A, self.B), [(self.A1,), (self.A0, self.B1)], [(self.A0, self.B0)])
        self.told(("or", self.A, self.C), [(self.A1,), (self.A0,) + self.C1], [(self.A0, self.C0[0]), (self.A0, self.C0[1])])
        self.told(("or", self.C, self.A), [self.C1, (self.C0[0], self.A1), (self.C0[1], self.A1)], [(self.C0[0], self.A0), (self.C0[1], self.A0)])

    def test_within_one_another(self):
        c = ("not", ("and", self.A, ("not", self.B)))
        self.told(c, [(self.A0,), (self.A1, self.B1)], [(self.A1, self.B0)])
        c = ("or", ("and", self.A, self.B), self.C)
        self.told(c, [(self.A1, self.B1), (self.A0,) + self.C1, (self.A1, self.B0) + self.C1],
                  [(self.A0, self.C0[0]), (self.A0, self.C0[1]), (self.A1, self.B0, self.C0[0]), (self.A1, self.B0, self.C0[1])])
        c = ("and", self.A, ("or", self.B, self.A))
        self.told(c, [(self.A1, self.B1), (self.A1, self.B0, self.A1)], [(self.A0,), (self.A1, self.B0, self.A0)])

    def test_six(self):
        same = [("same", N, num(k)) for k in (1, 2, 3)]
        c = ("and", same[0], ("and", same[1], ("not", same[2])))
        up = lambda k: form(-k - 1, (("n", 0), 1))
        down = lambda k: form(k - 1, (("n", 0), -1))
        both = lambda k: (form(-k, (("n", 0), 1)), form(k, (("n", 0), -1)))
        self.told(c, [both(1) + both(2) + (up(3),), both(1) + both(2) + (down(3),)],
                  [(up(1),), (down(1),), both(1) + (up(2),), both(1) + (down(2),), both(1) + both(2) + both(3)])


class OfTheFunctionTold(unittest.TestCase):
    def test_fields_by_the_functions_own_variables(self):
        """Like names in two functions are of their own kinds."""
        thing = (RECORDS, (function((), (("x", "point"),)), function((), (("x", "sheet"),), (), "num", "g")))
        point, sheet = unknowns_from(thing, "point", 0)[0], unknowns_from(thing, "sheet", 0)[0]
        wide = RECORDS + (("wide", (("at", "sheet"), ("x", "num"))),)
        self.assertEqual(terms_of(thing, "f", (("x", point),), ("of", ("var", "x"), "y")), (form(0, (("n", 1), 1)),))
        self.assertEqual(terms_of(thing, "g", (("x", sheet),), ("of", ("var", "x"), "at")), sheet[1:3])
        thing = program((), (("x", "wide"),), (), "num", wide)
        told = unknowns_from(thing, "wide", 4)
        self.assertEqual(told[1], 9)
        self.assertEqual(terms_of(thing, "f", (("x", told[0]),), ("of", ("var", "x"), "x")), (form(0, (("n", 8), 1)),))


if __name__ == "__main__":
    unittest.main()
