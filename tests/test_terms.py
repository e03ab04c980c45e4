"""Which things are forms, row terms and facts, and what names and unknowns stand in them (points 30, 31 and 32)."""

import copy
import unittest

from everyfork.terms import is_fact, is_form, is_row_term, names_in, unknowns_in
from tests.formed import N0, N1, OLD, R0, ROUNDS, ROW, T0, X, Y, Former, form
from tests.samples import THINGS, nested

ZERO = (0, ())
ONE = form(1, (N0, 1))

# One right thing of each kind of point 31.
FORMS = (
    ZERO, (-7, ()), (10 ** 60, ()), ONE, form(0, (N0, -1)), form(3, (N0, 2), (N1, -10 ** 60)),
    form(0, (("len", R0), 1)), form(0, (("len", T0), 1)), form(0, (("len", ROW), 1)), form(0, (("len", OLD), 1)),
    form(0, (("at", R0, ZERO), 1)), form(0, (("at", T0, ONE), 1)), form(0, (("at", ("rows", (ONE, ZERO)), ONE), 1)),
    form(0, (("at", ROW, (-1, ())), 1)), form(0, (("at", ("rows", ()), ZERO), 1)),
    form(0, (("at", ("put", R0, ONE, ZERO), ONE), 1)), form(0, (("at", ("more", T0, ONE), ONE), 1)),
    form(0, (("div", ZERO, 2), 1)), form(0, (("div", ONE, 99), 1)), form(0, (X, 1)), form(0, (Y, 1)), form(0, (ROUNDS, 1)),
    form(0, (("name", ("",)), 1)), form(0, (("name", ("a b", "~", "num")), 1)),
    form(0, (X, 1), (Y, 1), (ROUNDS, 1), (N0, 1), (("len", R0), 1), (("at", R0, ZERO), 1), (("div", ONE, 2), 1)),
    form(0, (("div", ONE, 2), 1), (("div", ONE, 3), 1)), form(0, (("at", R0, ONE), 1), (("at", R0, ZERO), 1), (("at", ROW, ZERO), 1)),
)
ROWS = (
    R0, ("r", 10 ** 60), T0, ("t", 7), ROW, OLD, ("rows", ()), ("rows", (ZERO,)), ("rows", (ONE, ONE, ZERO)),
    ("rows", (ZERO,) * 199), ("put", R0, ZERO, ONE), ("put", ("rows", (ONE,)), ONE, ONE), ("more", R0, ZERO),
    ("more", ("more", ("put", ROW, ZERO, ZERO), ONE), ONE),
)
FACTS = (
    ("least", ZERO), ("least", ONE), ("each", R0, ZERO, ONE, 1, 0, ZERO), ("each", ("rows", ()), ZERO, ZERO, 0, 0, ZERO),
    ("each", ("more", ROW, ONE), ONE, ONE, -10 ** 60, 5, ONE),
)

WRONG_THINGS = (
    ("n",), ("n", -1), ("n", True), ("n", "0"), ("n", None), ("n", (0,)), ("n", 0, 0), ["n", 0], ("m", 0), ("", 0), "n", (), None,
    0, True, ("len",), ("len", R0, R0), ("len", ("rows", ())), ("len", ("put", R0, ZERO, ZERO)), ("len", ("more", R0, ZERO)),
    ("len", N0), ("len", ROUNDS), ("len", ("len", R0)), ("len", ["r", 0]), ("len", ("r", -1)), ("len", ("t", -1)), ("len", ("t", True)), ("len", "r"), ("len", 0),
    ("at", R0), ("at", R0, ZERO, ZERO), ("at", ZERO, R0), ("at", N0, ZERO), ("at", R0, 0), ("at", R0, [0, ()]), ("at", R0, N0),
    ("at", ["r", 0], ZERO), ("at", ROUNDS, ZERO), ("at", ("rows", [ZERO]), ZERO), ("at", ("rows", ZERO), ZERO),
    ("div", ONE), ("div", ONE, 1), ("div", ONE, 0), ("div", ONE, -2), ("div", ONE, 100), ("div", ONE, "2"), ("div", ONE, True),
    ("div", ONE, None), ("div", ONE, 2, 2), ("div", 2, ONE), ("div", N0, 2), ("div", R0, 2), ["div", ONE, 2],
    ("name",), ("name", ()), ("name", "x"), ("name", ["x"]), ("name", (0,)), ("name", ("x", None)), ("name", (("x",),)),
    ("name", ("x",), ("x",)), ("name", (True,)), ("was",), ("was", ()), ("was", "x"), ("was", ("x", 1)), ("was", ["x"]),
    ["was", ("x",)], ("rounds", ()), ("rounds", 0), ["rounds"], "rounds", ("rounds", ("x",)), R0, T0, ("rows", ()),
    ("put", R0, ZERO, ZERO), ("more", R0, ZERO), ("least", ZERO), ZERO, ONE, (None, 0), ((), 0), (["n"], 0), (("n",), 0),
    ("name", ("%",)), ("name", ("a\n",)),
)
WRONG_ROWS = (
    ("r",), ("r", -1), ("r", True), ("r", "0"), ("r", None), ("r", 0, 0), ["r", 0], ("t", -1), ("t", False), ("t",), N0, ROUNDS,
    ("len", R0), ("at", R0, ZERO), ("div", ZERO, 2), ("name", ()), ("name", "x"), ("was", ["x"]), ("was", (1,)), ("rows",), ("rows", ZERO),
    ("rows", [ZERO]), ("rows", ZERO, ZERO), ("rows", (0,)), ("rows", (N0,)), ("rows", ([0, ()],)), ("rows", ((0, []),)), ("rows", None),
    ("rows", (ZERO, None)), ("put", R0, ZERO), ("put", R0, ZERO, ZERO, ZERO), ("put", ZERO, ZERO, ZERO), ("put", R0, R0, ZERO),
    ("put", R0, ZERO, R0), ("put", R0, 0, ZERO), ("put", R0, ZERO, 0), ["put", R0, ZERO, ZERO], ("put", N0, ZERO, ZERO),
    ("more", R0), ("more", R0, ZERO, ZERO), ("more", ZERO, R0), ("more", R0, 0), ("more", ROUNDS, ZERO), ("more", R0, [0, ()]),
    ZERO, ONE, ("least", ZERO), ("rest", R0), (R0,), ((), ()), "r",
)


def deep_form(deep):
    """A form with so many within one another, an odd number."""
    told = ZERO
    for _ in range(deep // 2):
        told = form(0, (("div", told, 2), 1))
    return told


def deep_row(deep):
    """A row term with so many within one another."""
    told = R0
    for _ in range(deep - 1):
        told = ("more", told, ZERO)
    return told


def wide_form(many):
    """A form with so many in it."""
    return form(0, *[(("n", k), 1) for k in range(many - 1)])


class Right(unittest.TestCase):
    def test_each_kind(self):
        for one in FORMS:
            self.assertIs(is_form(one), True, one)
            self.assertIs(is_row_term(one), False, one)
            self.assertIs(is_fact(one), False, one)
            self.assertIs(is_fact(("least", one)), True, one)
            self.assertIs(is_row_term(("rows", (one,))), True, one)
            self.assertIs(is_fact(("each", R0, one, ZERO, 1, 1, ZERO)), True, one)
            self.assertIs(is_fact(("each", R0, ZERO, one, 1, 1, ZERO)), True, one)
            self.assertIs(is_fact(("each", R0, ZERO, ZERO, 1, 1, one)), True, one)
        for one in ROWS:
            self.assertIs(is_row_term(one), True, one)
            self.assertIs(is_form(one), False, one)
            self.assertIs(is_fact(one), False, one)
            if one != ("rows", (ZERO,) * 199):
                self.assertIs(is_form(form(0, (("at", one, ZERO), 1))), True, one)
                self.assertIs(is_fact(("each", one, ZERO, ZERO, 1, 1, ZERO)), True, one)
        for one in FACTS:
            self.assertIs(is_fact(one), True, one)
            self.assertIs(is_form(one), False, one)
            self.assertIs(is_row_term(one), False, one)

    def test_made_ones(self):
        for seed in range(300):
            former = Former(seed)
            for make, asked in ((former.form, is_form), (former.row, is_row_term), (former.fact, is_fact)):
                one = make(5)
                before = copy.deepcopy(one)
                self.assertIs(asked(one), True, one)
                self.assertEqual(one, before)

    def test_one_part_changed(self):
        """Each place of right things in its turn: a thing of another kind in it is never right."""
        def changed(thing, wrong):
            yield wrong
            if type(thing) is tuple:
                yield list(thing)
                yield thing + (0,)
                yield thing[:-1]
                for place, inner in enumerate(thing):
                    for one in changed(inner, wrong):
                        yield thing[:place] + (one,) + thing[place + 1:]
        asked = 0
        for kind, rights in ((is_form, FORMS), (is_row_term, ROWS), (is_fact, FACTS)):
            for right in rights:
                if len(repr(right)) > 200:
                    continue
                for wrong in (None, True, 1.5, [], b"x"):
                    for one in changed(right, wrong):
                        asked += 1
                        told = kind(one)
                        self.assertIn(told, (True, False))
                        if told:
                            # Only a form or text fewer, where one fewer is right, may come out of this.
                            self.assertNotIn(repr(wrong), repr(one), (right, one))
        self.assertGreater(asked, 2000)


class Wrong(unittest.TestCase):
    def test_things(self):
        for thing in WRONG_THINGS:
            for one in ((0, ((thing, 1),)), (0, ((thing, 1), (("was", ("x",)), 1))), (0, ((("div", (0, ((thing, 1),)), 2), 1),))):
                self.assertIs(is_form(one), False, one)
            self.assertIs(is_fact(("least", (0, ((thing, 1),)))), False, thing)
            self.assertIs(is_row_term(("rows", ((0, ((thing, 1),)),))), False, thing)

    def test_row_terms(self):
        for thing in WRONG_ROWS:
            self.assertIs(is_row_term(thing), False, thing)
            for one in (("put", thing, ZERO, ZERO), ("more", thing, ZERO), ("rows", (form(0, (("at", thing, ZERO), 1)),))):
                self.assertIs(is_row_term(one), False, one)
            self.assertIs(is_form((0, ((("at", thing, ZERO), 1),))), False, thing)
            self.assertIs(is_fact(("each", thing, ZERO, ZERO, 1, 1, ZERO)), False, thing)

    def test_forms(self):
        pair = (N0, 1)
        for one in (
                0, None, True, "", (), [], (0,), (0, (), ()), [0, ()], (0, []), ("0", ()), (None, ()), (True, ()), (False, ()), (0, None),
                (0, ""), (0, 0), (0, (N0,)), (0, N0), (0, pair), (0, [pair]), (0, ([N0, 1],)), (0, ((N0,),)), (0, ((N0, 1, 1),)),
                (0, ((N0, 0),)), (0, ((N0, True),)), (0, ((N0, "1"),)), (0, ((N0, None),)), (0, ((1, N0),)), (0, ((N0, 1), None)),
                (0, (pair, pair)), (0, ((N0, 1), (N0, 2))), (0, ((N1, 1), (N0, 1))), (0, ((N0, 1), (("len", R0), 1))),
                (0, ((X, 1), (N0, 1), (N1, 1))), (0, ((X, 1), (N0, 1))), (0, ((N0, 1), (N1, 1), (N1, 1))),
                (0, ((("div", (0, ((N1, 1), (N0, 1))), 2), 1),)), (0, ((("at", R0, (0, (pair, pair))), 1),)),
                ((0, ()), ()), ((), 0), (0, ((), ())), (0, (((), 1),)), (0, (("n", 1),))):
            self.assertIs(is_form(one), False, one)
            self.assertIs(is_fact(("least", one)), False, one)
            self.assertIs(is_row_term(("rows", (one,))), False, one)
            self.assertIs(is_row_term(("put", R0, one, ZERO)), False, one)
            self.assertIs(is_row_term(("put", R0, ZERO, one)), False, one)
            self.assertIs(is_row_term(("more", R0, one)), False, one)
            self.assertIs(is_form((0, ((("at", R0, one), 1),))), False, one)
            self.assertIs(is_form((0, ((("div", one, 2), 1),))), False, one)
            for place in (2, 3, 6):
                fact = ["each", R0, ZERO, ZERO, 1, 1, ZERO]
                fact[place] = one
                self.assertIs(is_fact(tuple(fact)), False, fact)

    def test_facts(self):
        for one in (
                ("least",), ("least", ZERO, ZERO), ("least", 0), ("least", N0), ("least", R0), ["least", ZERO], ("most", ZERO), (ZERO,),
                ("each", R0, ZERO, ZERO, 1, 1), ("each", R0, ZERO, ZERO, 1, 1, ZERO, ZERO), ("each", ZERO, ZERO, ZERO, 1, 1, ZERO),
                ("each", R0, ZERO, ZERO, True, 1, ZERO), ("each", R0, ZERO, ZERO, 1, False, ZERO), ("each", R0, ZERO, ZERO, "1", 1, ZERO),
                ("each", R0, ZERO, ZERO, ZERO, 1, ZERO), ("each", R0, ZERO, ZERO, 1, None, ZERO), ("each", R0, 0, ZERO, 1, 1, ZERO),
                ["each", R0, ZERO, ZERO, 1, 1, ZERO], ("each", R0, R0, ZERO, 1, 1, ZERO), ("each", N0, ZERO, ZERO, 1, 1, ZERO),
                ("each", R0, ZERO, ZERO, (1,), 1, ZERO), ("each", R0, ZERO, ZERO, 1, 1, R0)):
            self.assertIs(is_fact(one), False, one)
            self.assertIs(is_form(one), False, one)
            self.assertIs(is_row_term(one), False, one)

    def test_any_plain_thing(self):
        for one in THINGS + (nested(40), [[[]]], nested(39, "n"), nested(39, True)):
            for asked in (is_form, is_row_term, is_fact):
                self.assertIs(asked(one), False, one)

    def test_deep_things(self):
        for head in ("n", "len", "at", "div", "name", "was", "rows", "put", "more", "least", "each", 0):
            one = ()
            for _ in range(39):
                one = (head, one)
            for asked in (is_form, is_row_term, is_fact):
                self.assertIs(asked(one), False, one)
        row = R0
        for _ in range(38):
            row = ("more", row, ZERO)
        self.assertIs(is_row_term(row), False)
        wrong = ["r", 0]
        for _ in range(38):
            wrong = ("more", wrong, ZERO)
        self.assertIs(is_row_term(wrong), False)


class Bounds(unittest.TestCase):
    def test_within_one_another(self):
        for deep in (1, 3, 5, 11):
            self.assertIs(is_form(deep_form(deep)), True, deep)
        for deep in (13, 15, 31):
            self.assertIs(is_form(deep_form(deep)), False, deep)
        # Twelve: ten of them, and ("n", 0) with the form around it, in the place of a plain number.
        def with_unknown(deep):
            told = ONE
            for _ in range(deep // 2 - 1):
                told = form(0, (("div", told, 2), 1))
            return told
        self.assertIs(is_form(with_unknown(12)), True)
        self.assertIs(is_form(with_unknown(14)), False)
        for deep, wanted in ((1, True), (2, True), (11, True), (12, True), (13, False), (14, False), (30, False)):
            self.assertIs(is_row_term(deep_row(deep)), wanted, deep)

    def test_row_terms_within_forms(self):
        for deep, wanted in ((9, True), (10, True), (11, False), (12, False)):
            one = form(0, (("at", deep_row(deep), ZERO), 1))
            self.assertIs(is_form(one), wanted, deep)
            self.assertIs(is_fact(("least", one)), wanted, deep)
        for deep, wanted in ((9, True), (11, True), (13, False)):
            self.assertIs(is_row_term(("rows", (deep_form(deep),))), wanted, deep)
        # A len and its row are two.
        told = form(0, (("len", R0), 1))
        for deep in (3, 5, 7, 9, 11, 13):
            self.assertIs(is_form(told), deep <= 12, deep)
            self.assertIs(is_row_term(("rows", (told,))), deep + 1 <= 12, deep)
            told = form(0, (("div", told, 2), 1))

    def test_facts_are_not_counted(self):
        for deep, wanted in ((11, True), (13, False)):
            self.assertIs(is_fact(("least", deep_form(deep))), wanted)
            for place in (2, 3, 6):
                fact = ["each", R0, ZERO, ZERO, 1, 1, ZERO]
                fact[place] = deep_form(deep)
                self.assertIs(is_fact(tuple(fact)), wanted)
        for deep, wanted in ((12, True), (13, False)):
            self.assertIs(is_fact(("each", deep_row(deep), ZERO, ZERO, 1, 1, ZERO)), wanted)

    def test_at_the_second_place(self):
        for deep, wanted in ((9, True), (11, False)):
            self.assertIs(is_form(form(0, (("at", R0, deep_form(deep)), 1))), wanted)
            self.assertIs(is_row_term(("more", ("more", R0, ZERO), deep_form(deep + 2))), wanted)

    def test_in_one(self):
        for many, wanted in ((1, True), (2, True), (199, True), (200, True), (201, False), (202, False), (400, False)):
            self.assertIs(is_form(wide_form(many)), wanted, many)
            self.assertIs(is_fact(("least", wide_form(many))), wanted, many)
            self.assertIs(is_row_term(("rows", (ZERO,) * (many - 1))), wanted, many)
            self.assertIs(is_row_term(("rows", (wide_form(max(1, many - 1)),))), wanted, many)

    def test_counted_as_often_as_they_stand(self):
        # The same form, four in it, again and again.
        four = form(0, (N0, 1), (N1, 1), (X, 1))
        for many, wanted in ((49, True), (50, False)):
            self.assertIs(is_row_term(("rows", (four,) * many)), wanted)
        self.assertIs(is_row_term(("rows", (four,) * 49 + (ZERO,) * 3)), True)
        self.assertIs(is_row_term(("rows", (four,) * 49 + (ZERO,) * 4)), False)
        doubled = ZERO
        for _ in range(5):
            doubled = form(0, (("at", ("rows", (doubled, doubled)), doubled), 1))
        self.assertIs(is_form(doubled), False)

    def test_one_that_stands_very_often(self):
        # Twelve deep by shape, yet a thousand to the tenth if all were looked at.
        row = ("rows", (ZERO,) * 100)
        for _ in range(4):
            row = ("rows", (form(0, (("at", row, ZERO), 1)),) * 1000)
        self.assertIs(is_row_term(row), False)

    def test_in_one_each_fact(self):
        # The row and three forms together are counted, the fact itself is not.
        for many, wanted in ((197, True), (198, False)):
            for place in (2, 3, 6):
                fact = ["each", R0, ZERO, ZERO, 1, 1, ZERO]
                fact[place] = wide_form(many)
                self.assertIs(is_fact(tuple(fact)), wanted, (many, place))
            self.assertIs(is_fact(("each", ("rows", (ZERO,) * (many - 1)), ZERO, ZERO, 1, 1, ZERO)), wanted, many)
        self.assertIs(is_fact(("each", ("more", ("put", R0, ZERO, ZERO), ZERO), wide_form(97), wide_form(96), 1, 1, ZERO)), True)
        self.assertIs(is_fact(("each", ("more", ("put", R0, ZERO, ZERO), ZERO), wide_form(97), wide_form(97), 1, 1, ZERO)), False)

    def test_row_and_len_are_counted(self):
        lens = [(("len", ("r", k)), 1) for k in range(100)]
        self.assertIs(is_form(form(0, *lens[:99])), True)
        self.assertIs(is_form(form(0, *lens[:99], (N0, 1))), True)
        self.assertIs(is_form(form(0, *lens)), False)


class Found(unittest.TestCase):
    def each_place(self, one, other):
        """Forms, row terms and facts with a number's thing or a row in every place where it may stand."""
        number = form(2, (one, 3))
        yield number
        yield form(0, (N1, 1), (one, -1)) if one != N1 else number
        yield form(0, (("at", ("r", 9), number), 1))
        yield form(0, (("div", number, 5), 1))
        yield form(0, (("div", form(0, (("div", number, 5), 1)), 5), 1))
        yield form(0, (("len", other), 1))
        yield form(0, (("at", other, ZERO), 1))
        yield ("rows", (ZERO, number))
        yield ("put", ("r", 9), number, ZERO)
        yield ("put", ("r", 9), ZERO, number)
        yield ("more", ("r", 9), number)
        yield other
        yield ("put", other, ZERO, ZERO)
        yield ("more", other, ZERO)
        yield ("least", number)
        yield ("each", other, ZERO, ZERO, 1, 1, ZERO)
        yield ("each", ("r", 9), number, ZERO, 1, 1, ZERO)
        yield ("each", ("r", 9), ZERO, number, 1, 1, ZERO)
        yield ("each", ("r", 9), ZERO, ZERO, 1, 1, number)
        yield ("each", ("put", ("more", other, ZERO), ZERO, ZERO), ZERO, ZERO, 1, 1, ZERO)

    def test_in_every_place(self):
        for one, other in ((("name", ("k",)), ("name", ("q",))), (("was", ("k",)), ("was", ("q", "z"))), (ROUNDS, ("was", ("q",)))):
            for thing in self.each_place(one, other):
                told = names_in(thing)
                self.assertIn(told, ([one], [other]), thing)
                self.assertIn(repr(told[0]), repr(thing))
        for one, other in ((("n", 4), ("r", 4)), (("n", 0), ("t", 4))):
            for thing in self.each_place(one, other):
                told = [unknown for unknown in unknowns_in(thing) if unknown not in (("r", 9), N1)]
                self.assertIn(told, ([one], [other]), thing)
                self.assertIn(repr(told[0]), repr(thing))

    def test_none(self):
        for one in (ZERO, ("rows", ()), ("rows", (ZERO,)), ("least", (5, ())), ("each", ("rows", ()), ZERO, ZERO, 1, 1, ZERO)):
            self.assertEqual(names_in(one), [])
            self.assertEqual(unknowns_in(one), [])
        self.assertEqual(names_in(ONE), [])
        self.assertEqual(unknowns_in(form(0, (X, 1))), [])

    def test_rising_each_once(self):
        one = form(0, (("name", ("b",)), 1), (("name", ("a", "c")), 1), (("name", ("a",)), 1), (ROUNDS, 1), (("was", ("a",)), 2),
                   (("div", form(0, (ROUNDS, 1), (("name", ("b",)), 4)), 3), 1), (("n", 10), 1), (("n", 9), 1), (("n", 2), 1),
                   (("len", ("t", 1)), 1), (("at", ("r", 3), form(0, (("n", 9), 1))), 1))
        self.assertEqual(names_in(one), [("name", ("a",)), ("name", ("a", "c")), ("name", ("b",)), ("rounds",), ("was", ("a",))])
        self.assertEqual(unknowns_in(one), [("n", 2), ("n", 9), ("n", 10), ("r", 3), ("t", 1)])
        self.assertEqual(names_in(("rows", (one, one))), names_in(one))
        self.assertEqual(unknowns_in(("each", ("put", ("t", 1), one, one), one, one, 1, 1, one)), unknowns_in(one))

    def test_made_ones(self):
        for seed in range(300):
            former = Former(seed)
            thing = former.thing_of_three(6)
            before = copy.deepcopy(thing)
            shown = repr(thing)
            names = [one for one in (X, Y, ROW, OLD, ROUNDS) if repr(one) in shown]
            unknowns = [(head, k) for head in "nrt" for k in range(3) if repr((head, k)) in shown]
            self.assertEqual(names_in(thing), sorted(names))
            self.assertEqual(unknowns_in(thing), sorted(unknowns))
            self.assertEqual(thing, before)

    def test_beyond_the_bounds(self):
        self.assertEqual(unknowns_in(wide_form(500)), [("n", k) for k in range(499)])
        self.assertEqual(unknowns_in(deep_row(900)), [R0])
        self.assertEqual(names_in(("least", form(0, (("at", deep_row(100), form(0, (X, 1))), 1)))), [X])

    def test_told_anew(self):
        one = form(0, (X, 1), (N0, 1))
        for asked, wanted in ((names_in, [X]), (unknowns_in, [N0])):
            told = asked(one)
            self.assertIs(type(told), list)
            told.clear()
            self.assertEqual(asked(one), wanted)


if __name__ == "__main__":
    unittest.main()
