"""Forms, row terms and facts in models (points 33 and 34)."""

import copy
import unittest

from everyfork.facts import holds, row_of, value_of
from tests.formed import N0, N1, OLD, R0, R1, ROUNDS, ROW, T0, X, Y, Former, form, least, listed, reckoned, stands

ZERO = (0, ())
MODEL = {N0: 4, N1: -3, R0: (10, 20, 30), R1: (), T0: (97, 32), X: 7, Y: -8, ROW: (1, 2), OLD: (5,), ROUNDS: 6}
GREAT = 10 ** 59 + 7


def number(value):
    return (value, ())


def at(row, place):
    return form(0, (("at", row, place), 1))


class Values(unittest.TestCase):
    def told(self, one, wanted, model=MODEL):
        before = copy.deepcopy((one, model))
        self.assertEqual(value_of(one, model), wanted)
        self.assertIs(type(value_of(one, model)), int)
        self.assertEqual((one, model), before)

    def test_each_thing(self):
        self.told(ZERO, 0)
        self.told(number(-5), -5)
        for thing, wanted in ((N0, 4), (N1, -3), (X, 7), (Y, -8), (ROUNDS, 6), (("len", R0), 3), (("len", R1), 0), (("len", T0), 2),
                              (("len", ROW), 2), (("len", OLD), 1), (("at", R0, number(1)), 20), (("at", T0, ZERO), 97),
                              (("at", OLD, ZERO), 5), (("div", form(0, (N0, 1)), 3), 1)):
            self.told(form(0, (thing, 1)), wanted)
            self.told(form(1, (thing, -2)), 1 - 2 * wanted)

    def test_so_many_times(self):
        self.told(form(100, (N0, 2), (N1, 5), (X, -1), (("len", R0), 10)), 100 + 8 - 15 - 7 + 30)

    def test_what_the_model_has_not(self):
        for thing in (N0, X, Y, ROUNDS, ("len", R0), ("len", T0), ("len", ROW), ("at", R0, ZERO), ("at", OLD, ZERO), ("n", 10 ** 30)):
            self.told(form(3, (thing, 5)), 3, {})
            self.told(form(3, (thing, 5)), 3, {("n", 7): 1, ("r", 7): (1,), ("name", ("other",)): 1})

    def test_at_beyond_both_ends(self):
        for place, wanted in ((-10 ** 59, 0), (-4, 0), (-3, 0), (-2, 0), (-1, 0), (0, 10), (1, 20), (2, 30), (3, 0), (4, 0), (10 ** 59, 0)):
            self.told(at(R0, number(place)), wanted)
        self.told(at(R1, ZERO), 0)
        self.told(at(R1, number(-1)), 0)
        self.told(at(R0, form(-2, (N0, 1))), 30)
        self.told(at(R0, form(2, (N1, 1))), 0)

    def test_div(self):
        for value in range(-20, 21):
            for n in (2, 3, 7, 99):
                self.told(form(0, (("div", form(0, (N0, 1)), n), 1)), value // n, {N0: value})
                self.told(form(0, (("div", number(value), n), 1)), value // n, {})
        self.told(form(0, (("div", form(0, (N0, 1)), 2), 1)), -1, {N0: -1})
        self.told(form(0, (("div", form(0, (N0, 1)), 2), 1)), -2, {N0: -3})
        self.told(form(0, (("div", form(0, (N0, 1)), 99), 1)), -1, {N0: -1})
        self.told(form(0, (("div", form(0, (N0, 1)), 99), 1)), -1, {N0: -99})
        self.told(form(0, (("div", form(0, (N0, 1)), 99), 1)), -2, {N0: -100})

    def test_great_numbers(self):
        self.told(form(GREAT, (N0, GREAT), (N1, -2)), GREAT + GREAT * GREAT + 2 * GREAT, {N0: GREAT, N1: -GREAT})
        self.told(form(0, (("div", form(0, (N0, 1)), 7), 1)), -GREAT // 7, {N0: -GREAT})
        self.told(at(R0, form(1 - GREAT, (N0, 1))), -GREAT, {N0: GREAT, R0: (1, -GREAT)})
        self.told(at(R0, form(0, (N0, 1))), 0, {N0: GREAT, R0: (1, -GREAT)})


class Rows(unittest.TestCase):
    def told(self, one, wanted, model=MODEL):
        before = copy.deepcopy((one, model))
        self.assertEqual(row_of(one, model), wanted)
        self.assertIs(type(row_of(one, model)), tuple)
        self.assertEqual((one, model), before)

    def test_each_row_term(self):
        self.told(R0, (10, 20, 30))
        self.told(R1, ())
        self.told(T0, (97, 32))
        self.told(ROW, (1, 2))
        self.told(OLD, (5,))
        self.told(("rows", ()), ())
        self.told(("rows", (number(3), form(1, (N0, 1)), at(R0, ZERO))), (3, 5, 10))
        self.told(("more", R0, form(0, (X, 2))), (10, 20, 30, 14))
        self.told(("more", ("rows", ()), number(1)), (1,))
        self.told(("more", ("more", T0, number(1)), number(-2)), (97, 32, 1, -2))

    def test_what_the_model_has_not(self):
        for one in (R0, T0, ROW, OLD):
            self.told(one, (), {})
            self.told(("more", one, number(1)), (1,), {})
            self.told(("put", one, ZERO, number(1)), (), {})

    def test_put(self):
        for place, wanted in ((-4, (10, 20, 30)), (-1, (10, 20, 30)), (0, (-8, 20, 30)), (1, (10, -8, 30)), (2, (10, 20, -8)),
                              (3, (10, 20, 30)), (10 ** 59, (10, 20, 30)), (-10 ** 59, (10, 20, 30))):
            self.told(("put", R0, number(place), form(0, (Y, 1))), wanted)
        self.told(("put", ("put", R0, ZERO, number(1)), ZERO, number(2)), (2, 20, 30))
        self.told(("put", ("more", R0, number(1)), number(3), number(2)), (10, 20, 30, 2))
        self.told(("put", R0, form(-2, (N0, 1)), number(GREAT)), (10, 20, GREAT))


class Facts(unittest.TestCase):
    def told(self, fact, wanted, model=MODEL):
        before = copy.deepcopy((fact, model))
        self.assertIs(holds(fact, model), wanted, fact)
        self.assertEqual((fact, model), before)

    def test_least(self):
        for value, wanted in ((-10 ** 59, False), (-2, False), (-1, False), (0, True), (1, True), (10 ** 59, True)):
            self.told(("least", number(value)), wanted)
            self.told(least(0, (N0, 1)), wanted, {N0: value})
            self.told(least(-4 + value, (N0, 1)), wanted)

    def each(self, first, behind, a, b, rest, row=R0):
        return ("each", row, number(first), number(behind), a, b, number(rest))

    def test_each(self):
        # 10, 20, 30 less 20: only the first comes below 0.
        for first, behind, wanted in ((0, 3, False), (0, 1, False), (1, 3, True), (0, 0, True), (1, 1, True), (2, 0, True), (1, 99, True),
                                      (-99, 99, False), (-5, 1, False), (-5, 0, True), (3, 9, True), (9, 3, True), (-10 ** 59, 10 ** 59, False),
                                      (1, 10 ** 59, True), (10 ** 59, -10 ** 59, True), (-5, -1, True)):
            self.told(self.each(first, behind, 1, 0, -20), wanted)

    def test_each_place_is_looked_at(self):
        for row in ((-1, 0, 0), (0, -1, 0), (0, 0, -1)):
            self.told(self.each(0, 3, 1, 0, 0), False, {R0: row})
            self.told(self.each(0, 3, 1, 0, 1), True, {R0: row})
        for behind, wanted in ((2, True), (3, False)):
            self.told(self.each(0, behind, 1, 0, 0), wanted, {R0: (0, 0, -1)})

    def test_a_b_and_rest(self):
        self.told(self.each(0, 3, -1, 10, 10), True)
        self.told(self.each(0, 3, -1, 10, 9), False)
        self.told(self.each(0, 3, 0, 1, 0), True)
        self.told(self.each(0, 3, 0, -1, 2), True)
        self.told(self.each(0, 3, 0, -1, 1), False)
        self.told(self.each(0, 3, 0, 0, -1), False)
        self.told(self.each(0, 3, 0, 0, 0), True)
        self.told(("each", R0, ZERO, form(0, (N0, 1)), 1, 0, form(-9, (N1, 1))), False)
        self.told(("each", R0, form(4, (N1, 1)), form(0, (N0, 1)), 1, 0, form(-9, (N1, 1))), True)

    def test_no_places(self):
        for row in (R1, ("rows", ()), ("r", 5), ("put", R1, ZERO, ZERO)):
            self.told(self.each(-9, 9, 0, 0, -1, row), True)
        self.told(self.each(-9, 9, 0, 0, -1, ("more", R1, ZERO)), False)

    def test_of_rows_made(self):
        self.told(self.each(0, 9, 1, 0, -10, ("put", R0, number(1), ZERO)), False)
        self.told(self.each(0, 9, 1, 0, -10, ("put", R0, number(3), ZERO)), True)
        self.told(self.each(3, 4, 1, 0, -10, ("more", R0, number(9))), False)
        self.told(self.each(3, 4, 1, 0, -10, ("more", R0, number(10))), True)
        self.told(self.each(0, 9, 1, 0, -97, T0), False)
        self.told(self.each(0, 1, 1, 0, -97, T0), True)
        self.told(self.each(0, 9, 1, 0, 0, ("rows", (number(1), form(0, (N1, 1))))), False)

    def test_great_numbers(self):
        self.told(self.each(0, 9, GREAT, -GREAT, GREAT), True, {R0: (-1, 0, 1)})
        self.told(self.each(0, 9, GREAT, -GREAT, GREAT - 1), False, {R0: (-1, 0, 1)})


class Made(unittest.TestCase):
    def test_many(self):
        both = {True: 0, False: 0}
        for seed in range(400):
            former = Former(seed)
            one, row, fact = former.form(6), former.row(6), former.fact(6)
            for _ in range(5):
                model = former.model()
                before = copy.deepcopy((one, row, fact, model))
                self.assertEqual(value_of(one, model), reckoned(one, model))
                self.assertEqual(row_of(row, model), tuple(listed(row, model)))
                self.assertIs(holds(fact, model), stands(fact, model))
                self.assertEqual((one, row, fact, model), before)
                both[stands(fact, model)] += 1
        self.assertGreater(min(both.values()), 300)


if __name__ == "__main__":
    unittest.main()
