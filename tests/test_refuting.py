"""Refutations and what their steps lay (points 37, 38 and 39)."""

import copy
import unittest

from everyfork.facts import holds
from everyfork.refuting import laid, refutes
from everyfork.terms import is_fact, is_form, is_row_term
from tests.formed import N0, N1, OLD, R0, R1, ROUNDS, ROW, T0, X, Former, form, least
from tests.samples import THINGS, nested

ZERO = (0, ())
A = least(-1, (N0, 1))
B = least(0, (N0, -1))
C = least(5, (N1, 2), (X, 1))
EACH = ("each", R0, form(1, (N1, 1)), form(7, (N1, 2)), 3, -4, form(9, (X, 1)))
FACTS = [A, B, EACH, C]
K = form(2, (N0, 3))
F = form(1, (N1, 1))
V = form(8, (X, 2))
PUT = ("put", R1, F, V)
MORE = ("more", R1, V)
ROWS = ("rows", (V, F, ZERO))


def at(row, place, often=1):
    """A pair of a form: the number of a row at a place."""
    return (("at", row, place), often)


def lens(row, often=1):
    """A pair of a form: the length of an unknown row."""
    return (("len", row), often)


class Laid(unittest.TestCase):
    def told(self, step, *wanted, facts=FACTS):
        """The facts behind the list's own in each list that is laid."""
        before = copy.deepcopy((facts, step))
        told = laid(facts, step)
        self.assertEqual(told, [facts + list(one) for one in wanted], step)
        self.assertIs(type(told), list)
        self.assertTrue(all(type(one) is list for one in told))
        self.assertEqual((facts, step), before)
        # What is told is the asker's own.
        for one in told:
            one.clear()
        told.clear()
        self.assertEqual(facts, before[0])
        self.assertEqual(laid(facts, step), [facts + list(one) for one in wanted])

    def test_sum(self):
        self.told(("sum", ((0, 1), (1, 1))))
        self.told(("sum", ((0, 7), (1, 7))))
        self.told(("sum", ((1, 10 ** 70),)), facts=[EACH, least(-1)])
        self.told(("sum", ((0, 2), (1, 3))), facts=[least(-1, (N0, 3), (X, -3)), least(0, (N0, -2), (X, 2))])
        self.told(("sum", ((0, 1), (2, 1), (3, 2))), facts=[least(1, (N0, 2)), EACH, least(3, (N1, 2)), least(-3, (N0, -1), (N1, -1))])

    def test_split(self):
        self.told(("split", K), [least(2, (N0, 3))], [least(-3, (N0, -3))])
        self.told(("split", ZERO), [least(0)], [least(-1)])
        self.told(("split", K), [least(2, (N0, 3))], [least(-3, (N0, -3))], facts=[])
        one = form(0, at(("rows", (ZERO,)), ZERO))
        self.told(("split", one), [("least", one)], [least(-1, at(("rows", (ZERO,)), ZERO, -1))])

    def test_each(self):
        self.told(("each", 2, K),
                  [least(-1 - 2 + 1, (N0, -3), (N1, 1))], [least(2 - 7, (N0, 3), (N1, -2))], [least(-3, (N0, -3))],
                  [least(2, (N0, 3), lens(R0, -1))], [least(9 - 8, at(R0, K, 3), (N0, -12), (X, 1))])
        self.told(("each", 2, (4, ())),
                  [least(-1 - 4 + 1, (N1, 1))], [least(4 - 7, (N1, -2))], [least(-5)], [least(4, lens(R0, -1))],
                  [least(9 - 16, at(R0, (4, ()), 3), (X, 1))])

    def test_each_of_rows_made(self):
        """len_of the row, but the number at a place as such alone."""
        for row, length in ((("more", MORE, ZERO), form(2, lens(R1))), (PUT, form(0, lens(R1))), (ROWS, (3, ())), (T0, form(0, lens(T0))),
                            (ROW, form(0, lens(ROW)))):
            fact = ("each", row, ZERO, ZERO, 1, 0, ZERO)
            outside = form(1 - length[0], *[(thing, -often) for thing, often in length[1]])
            self.told(("each", 0, (1, ())), [least(-2)], [least(1)], [least(-2)], [("least", outside)], [least(0, at(row, (1, ())))],
                      facts=[fact])

    def test_each_with_times_of_0(self):
        fact = ("each", R0, ZERO, ZERO, 0, 0, F)
        self.told(("each", 1, K), [least(-3, (N0, -3))], [least(2, (N0, 3))], [least(-3, (N0, -3))], [least(2, (N0, 3), lens(R0, -1))],
                  [("least", F)], facts=[A, fact])

    def test_len(self):
        for row in (R0, R1, T0, ("t", 99)):
            self.told(("len", row), [least(0, lens(row))])

    def test_div(self):
        for n in (2, 7, 99):
            quotient = ("div", K, n)
            self.told(("div", K, n), [least(2, (N0, 3), (quotient, -n)), least(n - 1 - 2, (N0, -3), (quotient, n))])
        # As such alone, of a plain number too.
        quotient = ("div", (7, ()), 2)
        self.told(("div", (7, ()), 2), [least(7, (quotient, -2)), least(1 - 7, (quotient, 2))])
        # A quotient within.
        inner = form(0, (quotient, 1))
        self.told(("div", inner, 3), [least(0, (quotient, 1), (("div", inner, 3), -3)), least(2, (quotient, -1), (("div", inner, 3), 3))])

    def test_sign(self):
        for k in (0, 5):
            text = ("t", k)
            self.told(("sign", k, K), [least(-3, (N0, -3))], [least(2, (N0, 3), lens(text, -1))],
                      [least(-32, at(text, K)), least(36, at(text, K, -1))], [least(-38, at(text, K)), least(126, at(text, K, -1))])

    def test_alike(self):
        for row in (R0, T0, ROW, PUT, MORE, ROWS):
            self.told(("alike", row, K, F), [least(2 - 1 - 1, (N0, 3), (N1, -1))], [least(1 - 2 - 1, (N0, -3), (N1, 1))],
                      [least(0, at(row, K), at(row, F, -1)), least(0, at(row, K, -1), at(row, F))])
        self.told(("alike", ROWS, ZERO, (1, ())), [least(-2)], [least(0)],
                  [least(0, at(ROWS, ZERO), at(ROWS, (1, ()), -1)), least(0, at(ROWS, ZERO, -1), at(ROWS, (1, ())))])
        self.told(("alike", R0, K, K), [least(-1)], [least(-1)], [least(0), least(0)])

    def test_out(self):
        for row in (R0, T0, ROW, OLD):
            self.told(("out", row, K), [("least", K), least(-3, (N0, -3), lens(row))], [least(0, at(row, K)), least(0, at(row, K, -1))])
        self.told(("out", ROWS, (5, ())), [least(5), least(3 - 6)], [least(0, at(ROWS, (5, ()))), least(0, at(ROWS, (5, ()), -1))])
        self.told(("out", PUT, K), [("least", K), least(-3, (N0, -3), lens(R1))], [least(0, at(PUT, K)), least(0, at(PUT, K, -1))])
        self.told(("out", MORE, K), [("least", K), least(-2, (N0, -3), lens(R1))], [least(0, at(MORE, K)), least(0, at(MORE, K, -1))])

    def test_below(self):
        same = [least(0, at(PUT, K), at(R1, K, -1)), least(0, at(PUT, K, -1), at(R1, K))]
        # not (F less K less 1): -1 - (1 - 2 - 1), and so on.
        self.told(("below", PUT, K), [least(1, (N0, 3), (N1, -1))], same)
        same = [least(0, at(MORE, K), at(R1, K, -1)), least(0, at(MORE, K, -1), at(R1, K))]
        self.told(("below", MORE, K), [least(2, (N0, 3), lens(R1, -1))], same)
        # len_of what is behind, and the number there as such alone.
        deep = ("more", ("more", ROWS, ZERO), ZERO)
        self.told(("below", deep, (1, ())), [least(1 - 4)],
                  [least(0, at(deep, (1, ())), at(deep[1], (1, ()), -1)), least(0, at(deep, (1, ()), -1), at(deep[1], (1, ())))])
        put = ("put", ROWS, ZERO, ZERO)
        self.told(("below", put, (1, ())), [least(-1 - (0 - 1 - 1))],
                  [least(0, at(put, (1, ())), at(ROWS, (1, ()), -1)), least(0, at(put, (1, ()), -1), at(ROWS, (1, ())))])

    def test_above(self):
        same = [least(0, at(PUT, K), at(R1, K, -1)), least(0, at(PUT, K, -1), at(R1, K))]
        # not (K less F less 1): -1 - (2 - 1 - 1), and so on.
        self.told(("above", PUT, K), [least(-1, (N0, -3), (N1, 1))], same)

    def test_there(self):
        unlike = [[least(0, (N0, 3), (N1, -1))], [least(-2, (N0, -3), (N1, 1))]]
        self.told(("there", PUT, K), *unlike, [least(-2, (N1, -1))], [least(1, (N1, 1), lens(R1, -1))],
                  [least(-8, at(PUT, K), (X, -2)), least(8, at(PUT, K, -1), (X, 2))])
        self.told(("there", MORE, K), [least(1, (N0, 3), lens(R1, -1))], [least(-3, (N0, -3), lens(R1))],
                  [least(-8, at(MORE, K), (X, -2)), least(8, at(MORE, K, -1), (X, 2))])
        # len_of what is put into or lies ahead.
        put = ("put", ("more", ROWS, ZERO), F, V)
        self.told(("there", put, K), *unlike, [least(-2, (N1, -1))], [least(1 - 4, (N1, 1))],
                  [least(-8, at(put, K), (X, -2)), least(8, at(put, K, -1), (X, 2))])
        more = ("more", ("put", R1, ZERO, ZERO), V)
        self.told(("there", more, K), [least(1, (N0, 3), lens(R1, -1))], [least(-3, (N0, -3), lens(R1))],
                  [least(-8, at(more, K), (X, -2)), least(8, at(more, K, -1), (X, 2))])

    def test_there_of_rows(self):
        for j, there in enumerate(ROWS[1]):
            self.told(("there", ROWS, K, j), [least(2 - j - 1, (N0, 3))], [least(j - 2 - 1, (N0, -3))],
                      [least(-there[0], at(ROWS, K), *[(thing, -often) for thing, often in there[1]]),
                       least(there[0], at(ROWS, K, -1), *there[1])])
        one = ("rows", (V,))
        self.told(("there", one, (4, ()), 0), [least(3)], [least(-5)],
                  [least(-8, at(one, (4, ())), (X, -2)), least(8, at(one, (4, ()), -1), (X, 2))])

    def test_beyond_the_bounds(self):
        """What stands in a step keeps to point 32; what it lays may go beyond."""
        row = R0
        for _ in range(11):
            row = ("more", row, ZERO)
        self.assertTrue(is_row_term(row))
        told = laid([], ("out", row, ZERO))
        self.assertEqual(told[1], [least(0, at(row, ZERO)), least(0, at(row, ZERO, -1))])
        self.assertFalse(is_fact(told[1][0]))
        wide = form(0, *[(("n", k), 1) for k in range(199)])
        self.assertTrue(is_form(wide))
        told = laid([], ("div", wide, 2))
        self.assertFalse(is_fact(told[0][0]))
        self.assertEqual(told[0][0], ("least", form(0, *wide[1], (("div", wide, 2), -2))))
        # And such facts stand in sums, and are looked up by their numbers.
        facts = told[0] + [("least", form(-2, *[(thing, -often) for thing, often in wide[1]], (("div", wide, 2), 2)))]
        self.assertEqual(laid(facts, ("sum", ((0, 1), (2, 1)))), [])
        each = ("each", ("more", ("more", row, ZERO), ZERO), ZERO, ZERO, 1, 0, ZERO)
        self.assertEqual(laid([each], ("each", 0, ZERO))[4], [each, least(0, at(each[1], ZERO))])


class NotRight(unittest.TestCase):
    def none(self, step, facts=FACTS):
        before = copy.deepcopy((facts, step))
        self.assertIsNone(laid(facts, step), step)
        self.assertIs(refutes(facts, (step,)), False, step)
        self.assertEqual((facts, step), before)

    def test_sums(self):
        self.assertEqual(laid(FACTS, ("sum", ((0, 1), (1, 1)))), [])
        for many in (
                (), ((0, 1),), ((1, 1),), ((0, 1), (1, 2)), ((0, 2), (1, 1)), ((0, 1), (1, 1), (3, 1)), ((0, 0), (1, 1)), ((0, -1), (1, 1)),
                ((0, 1), (1, 0)), ((1, 1), (0, 1)), ((0, 1), (0, 1), (1, 2)), ((0, 1), (1, 1), (1, 1)), ((-4, 1), (1, 1)), ((0, 1), (-3, 1)),
                ((0, 1), (4, 1)), ((0, 1), (1, 1), (4, 1)), ((0, 1), (1, 1), (2, 1)), ((0, True), (1, 1)), ((False, 1), (1, 1)),
                ((0, 1), (True, 1)), ((0, "1"), (1, 1)), (("0", 1), (1, 1)), ((0, None), (1, 1)), [(0, 1), (1, 1)], ([0, 1], (1, 1)),
                ((0, 1, 1), (1, 1)), ((0,), (1, 1)), (0, 1), ((0, 1), None), None, 0, True, "", ((0, 1), (1, 1), ())):
            self.none(("sum", many))
        self.none(("sum", ((0, 1), (1, 1)), ()))
        self.none(("sum",))
        self.none(["sum", ((0, 1), (1, 1))])

    def test_times_of_0_or_below(self):
        """Though the sum itself would come to a plain number below 0."""
        facts = [least(-1), least(5, (N0, 1)), least(4, (N0, 1)), EACH]
        self.assertEqual(laid(facts, ("sum", ((0, 1),))), [])
        for many in (((0, 1), (1, 0)), ((0, 1), (1, -1), (2, 1)), ((1, -1), (2, 1)), ((0, 9), (1, 1), (2, -1)), ((1, 0),), ((0, 1), (3, 0))):
            self.none(("sum", many), facts)

    def test_sums_that_come_to_0_or_more(self):
        self.none(("sum", ((0, 1),)), [least(0)])
        self.none(("sum", ((0, 1),)), [least(5)])
        self.none(("sum", ((0, 5), (1, 1))), [least(1, (N0, 1)), least(-5, (N0, -5))])
        self.assertEqual(laid([least(1, (N0, 1)), least(-6, (N0, -5))], ("sum", ((0, 5), (1, 1)))), [])
        self.none(("sum", ()), [least(-1)])
        self.none(("sum", ((0, 1),)), [])
        self.none(("sum", ((0, 1),)), [("each", ("rows", ((-1, ()),)), ZERO, (1, ()), 1, 0, ZERO)])

    def test_each(self):
        for number in (-2, -1, 0, 1, 3, 4, 99, True, None, "2", (2,), K):
            self.none(("each", number, K))
        self.none(("each", True, K), [A, EACH])
        self.none(("each", False, K), [EACH])
        self.none(("each", -1, K), [EACH])
        self.none(("each", 0, K), [])

    def test_forms_and_row_terms(self):
        wide = form(0, *[(("n", k), 1) for k in range(200)])
        deep = R0
        for _ in range(12):
            deep = ("more", deep, ZERO)
        thick = ZERO
        for _ in range(6):
            thick = form(0, (("div", thick, 2), 1))
        forms = (0, True, None, "", (), [0, ()], (0, []), (True, ()), (0, ((N0, 0),)), (0, ((N1, 1), (N0, 1))), (0, ((N0, True),)), N0, R0, A,
                 (0, (), ()), wide, thick, nested(38))
        rows = (0, True, None, "", (), ["r", 0], ("r", -1), ("r", True), N0, ROUNDS, ("len", R0), ("rows", [ZERO]), ("rows", (0,)), deep, ZERO,
                ("put", R0, ZERO), ("more", R0, ZERO, ZERO), ("rows", (ZERO,) * 200), A, ("name", ()), nested(38))
        for one in forms:
            for step in (("split", one), ("each", 2, one), ("div", one, 2), ("sign", 0, one), ("alike", R0, one, K), ("alike", R0, K, one),
                         ("out", R0, one), ("below", PUT, one), ("below", MORE, one), ("above", PUT, one), ("there", PUT, one),
                         ("there", MORE, one), ("there", ROWS, one, 0), ("below", ("put", R0, one, ZERO), K), ("there", ("more", R0, one), K),
                         ("there", ("rows", (K, one)), K, 0)):
                self.none(step)
        for one in rows:
            for step in (("len", one), ("alike", one, K, F), ("out", one, K), ("below", one, K), ("above", one, K), ("there", one, K),
                         ("there", one, K, 0), ("below", ("put", one, K, K), K), ("below", ("more", one, K), K),
                         ("above", ("put", one, K, K), K), ("there", ("more", one, K), K)):
                self.none(step)

    def test_rows_of_other_kinds(self):
        for row in (ROW, OLD, ROWS, PUT, MORE, ("rows", ())):
            self.none(("len", row))
        for row in (R0, T0, ROW, OLD, ROWS, ("rows", ())):
            self.none(("below", row, K))
            self.none(("above", row, K))
            self.none(("there", row, K))
        self.none(("above", MORE, K))
        for row in (R0, T0, ROW, OLD, PUT, MORE):
            self.none(("there", row, K, 0))
        self.none(("there", ROWS, K))

    def test_places_of_rows(self):
        for j in (-1, -3, 3, 4, 10 ** 30, True, False, None, "0", (0,), ZERO):
            self.none(("there", ROWS, K, j))
        self.none(("there", ("rows", ()), K, 0))

    def test_signs_and_quotients(self):
        for k in (-1, True, None, "0", T0, ZERO):
            self.none(("sign", k, K))
        for n in (-2, 0, 1, 100, True, None, "2", ZERO, (2,)):
            self.none(("div", K, n))

    def test_one_thing_more_or_fewer(self):
        for step in (("sum", ((0, 1), (1, 1))), ("split", K), ("each", 2, K), ("len", R0), ("div", K, 2), ("sign", 0, K), ("alike", R0, K, F),
                     ("out", R0, K), ("below", PUT, K), ("below", MORE, K), ("above", PUT, K), ("there", PUT, K), ("there", MORE, K),
                     ("there", ROWS, K, 1)):
            self.assertIsNotNone(laid(FACTS, step))
            for more in (0, K, R0, None, ()):
                self.none(step + (more,))
            self.none(step[:-1])
            self.none(list(step))
            self.none(step[1:])
            self.none((step,))
            self.none((step[0] + "s",) + step[1:])
            self.none(([step[0]],) + step[1:])
            for place in range(len(step)):
                for wrong in (None, True, [], "x", (), -1, list(step[place]) if type(step[place]) is tuple else [step[place]]):
                    changed = step[:place] + (wrong,) + step[place + 1:]
                    if changed != ("sum", ()):
                        self.none(changed)

    def test_any_plain_thing(self):
        for thing in THINGS + (("sum",), ("", K), ("name", ("x",)), ("least", K), A, EACH, nested(39), ((), K), (None, K), (0, K), ([], K)):
            self.none(thing)


class Refutes(unittest.TestCase):
    def told(self, facts, thing, wanted):
        before = copy.deepcopy((facts, thing))
        self.assertIs(refutes(facts, thing), wanted, thing)
        self.assertEqual((facts, thing), before)

    def test_one_sum(self):
        self.told(FACTS, (("sum", ((0, 1), (1, 1))),), True)
        self.told(FACTS, (), False)
        self.told([], (), False)
        self.told([least(-1)], (), False)
        self.told([least(-1)], (("sum", ((0, 1),)),), True)

    # n is 1 or 2, and 3n is 4 or 5: no such n; the third and fourth facts say 3n from 4 to 5.
    BETWEEN = [least(-1, (N0, 1)), least(2, (N0, -1)), least(-4, (N0, 3)), least(5, (N0, -3))]
    ONE = (("split", form(1, (N0, -1))), ("sum", ((2, 1), (4, 3))), ("sum", ((3, 1), (4, 3))))

    def test_split(self):
        self.told(self.BETWEEN, self.ONE, True)
        # The first list told is on top: turned about, the sums are not right for their lists.
        self.told(self.BETWEEN, (self.ONE[0], self.ONE[2], self.ONE[1]), False)
        self.told(self.BETWEEN, (self.ONE[1], self.ONE[0], self.ONE[2]), False)
        self.told(self.BETWEEN, self.ONE[:2], False)
        self.told(self.BETWEEN, self.ONE[:1], False)
        self.told(self.BETWEEN, self.ONE[1:], False)
        self.told(self.BETWEEN, self.ONE + (self.ONE[2],), False)
        self.told(self.BETWEEN, self.ONE + self.ONE, False)
        self.told(self.BETWEEN, list(self.ONE), False)
        self.told(self.BETWEEN[:3], self.ONE, False)
        self.told(self.BETWEEN, self.ONE + (None,), False)
        self.told(self.BETWEEN, self.ONE[:2] + (list(self.ONE[2]),), False)

    def test_splits_within_splits(self):
        # x and y each 0 or 1, and 2x + 2y is 1 or 3.
        facts = [least(0, (N0, 1)), least(1, (N0, -1)), least(0, (N1, 1)), least(1, (N1, -1)),
                 least(-1, (N0, 2), (N1, 2)), least(3, (N0, -2), (N1, -2)), least(-3, (N0, 2), (N1, 2), (X, 1)), least(1, (N0, -2), (N1, -2), (X, 1)),
                 least(0, (X, -1))]
        # The last three: 2x + 2y is 3 at least and 1 at most.
        self.told(facts, (("sum", ((6, 1), (7, 1), (8, 2))),), True)
        facts = facts[:4] + [least(-1, (N0, 2), (N1, 2)), least(1, (N0, -2), (N1, -2))]
        x, y = form(-1, (N0, 1)), form(-1, (N1, 1))
        steps = (("split", x), ("split", y), ("sum", ((5, 1), (6, 2), (7, 2))), ("sum", ((2, 2), (5, 1), (6, 2))),
                 ("split", y), ("sum", ((0, 2), (5, 1), (7, 2))), ("sum", ((4, 1), (6, 2), (7, 2))))
        self.told(facts, steps, True)
        for place in range(len(steps)):
            self.told(facts, steps[:place] + steps[place + 1:], False)
            self.told(facts, steps[:place] + (steps[place],) + steps[place:], False)
            for other in range(place):
                if steps[place] != steps[other]:
                    turned = list(steps)
                    turned[place], turned[other] = steps[other], steps[place]
                    self.told(facts, tuple(turned), False)

    def test_facts_of_sides_are_not_kept(self):
        """A list that is taken up again has nothing of the lists that lay on top of it."""
        facts = [least(0, (N0, 1))]
        steps = (("split", form(-1, (N0, -1))), ("sum", ((0, 1), (1, 1))), ("split", form(-2, (N0, -1))), ("sum", ((0, 1), (2, 1))))
        self.told(facts, steps, False)
        self.told(facts, steps + (("sum", ((0, 1), (1, 1))),), False)
        self.told(facts, steps + (("sum", ((0, 1), (2, 1))),), False)
        self.told(facts + [least(-1, (N0, -1))], (("sum", ((0, 1), (1, 1))),), True)

    def test_each_fact(self):
        # Each number of the row is 1 or more, there is a first one, and it is 0 or less.
        facts = [("each", R0, ZERO, form(0, lens(R0)), 1, 0, (-1, ())), least(-1, lens(R0)), least(0, at(R0, ZERO, -1))]
        steps = (("each", 0, ZERO), ("sum", ((3, 1),)), ("sum", ((1, 1), (3, 1))), ("sum", ((3, 1),)), ("sum", ((1, 1), (3, 1))),
                 ("sum", ((2, 1), (3, 1))))
        self.told(facts, steps, True)
        for place in range(len(steps)):
            self.told(facts, steps[:place] + steps[place + 1:], False)

    def test_signs(self):
        # The first sign of a text is 37.
        facts = [least(-1, lens(T0)), least(-37, at(T0, ZERO)), least(37, at(T0, ZERO, -1))]
        steps = (("sign", 0, ZERO), ("sum", ((3, 1),)), ("sum", ((0, 1), (3, 1))), ("sum", ((1, 1), (4, 1))), ("sum", ((2, 1), (3, 1))))
        self.told(facts, steps, True)
        self.told(facts[1:], steps, False)

    def test_beyond_the_bounds(self):
        """Each number of a row twelve deep is 1 or more, yet its last one is 0."""
        row = R0
        for _ in range(11):
            row = ("more", row, ZERO)
        last, length = form(10, lens(R0)), form(11, lens(R0))
        facts = [("each", row, ZERO, length, 1, 0, (-1, ()))]
        self.assertTrue(is_fact(facts[0]))
        steps = (("len", R0), ("each", 0, last), ("sum", ((1, 1), (2, 1))), ("sum", ((2, 1),)), ("sum", ((1, 1), (2, 1))), ("sum", ((2, 1),)),
                 ("there", row, last), ("sum", ((3, 1),)), ("sum", ((3, 1),)), ("sum", ((2, 1), (4, 1))))
        self.told(facts, steps, True)
        self.told(facts, steps[:-1], False)
        deeper = ("more", row, ZERO)
        self.told([("each", deeper, ZERO, form(12, lens(R0)), 1, 0, (-1, ()))], (("there", deeper, length),), False)

    def test_any_plain_thing(self):
        for thing in THINGS + (FACTS, tuple(FACTS), "sum", (("sum",),), ((),), (None,), ("sum", ((0, 1), (1, 1)))):
            self.told(FACTS, thing, False)

    def test_many_steps_over_many_facts(self):
        facts = [least(0, (("n", k), 1)) for k in range(1500)]
        steps = []
        for k in range(1500):
            steps.extend([("split", form(-1, (("n", k), -1))), ("sum", ((k, 1), (1500 + k, 1)))])
        facts.append(least(-1))
        steps = [step if step[0] == "split" else ("sum", ((step[1][0][0], 1), (step[1][1][0] + 1, 1))) for step in steps]
        steps.append(("sum", ((1500, 1),)))
        self.told(facts, tuple(steps), True)
        self.told(facts, tuple(steps[:-1]), False)


class Sound(unittest.TestCase):
    """In each model of a list's facts all facts of one of the lists laid hold (point 39)."""

    def step(self, former, facts):
        """Some step, right or not."""
        one, other, row = former.form(3), former.form(3), former.row(4)
        number = former.random.randint(0, len(facts))
        head = former.random.choice(("split", "each", "each", "len", "div", "sign", "alike", "out", "below", "above", "there", "rows", "sum"))
        if head in ("below", "above", "there"):
            row = former.random.choice((("put", row, other, former.form(2)), ("more", row, other)))
            return (head, row, one)
        if head == "rows":
            row = ("rows", tuple(former.form(2) for _ in range(3)))
            return ("there", row, one, former.random.randint(0, 3))
        return {"split": ("split", one), "each": ("each", number, one), "len": ("len", row), "div": ("div", one, former.random.choice((2, 3, 5))),
                "sign": ("sign", former.random.randint(0, 1), one), "alike": ("alike", row, one, other), "out": ("out", row, one),
                "sum": ("sum", tuple((k, former.random.randint(1, 3)) for k in range(len(facts)) if former.random.random() < 0.5))}[head]

    def test_many(self):
        asked, nothing = {}, 0
        for seed in range(1500):
            former = Former(seed)
            facts = [former.fact(3) for _ in range(former.random.randint(1, 3))]
            step = self.step(former, facts)
            told = laid(facts, step)
            if told is None:
                continue
            for one in told:
                self.assertEqual(one[:len(facts)], facts)
                self.assertTrue(all(is_fact(fact) for fact in one))
            for _ in range(12):
                model = former.model()
                if all(holds(fact, model) for fact in facts):
                    self.assertTrue([one for one in told if all(holds(fact, model) for fact in one)], (facts, step, model))
                    asked[step[0]] = asked.get(step[0], 0) + 1
            nothing += told == []
        self.assertEqual(set(asked), {"split", "each", "len", "div", "sign", "alike", "out", "below", "above", "there"})
        self.assertGreater(min(asked.values()), 50)
        self.assertGreater(nothing, 0)


if __name__ == "__main__":
    unittest.main()
