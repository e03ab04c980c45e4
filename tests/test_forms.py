"""Forms made of others, and things put for names (points 35 and 36)."""

import copy
import unittest

from everyfork.facts import holds, row_of, value_of
from everyfork.forms import added, alone, at_of, div_of, len_of, less, not_of, plain, put_in, times
from tests.formed import N0, N1, OLD, R0, R1, ROUNDS, ROW, T0, X, Y, Former, form, is_form_by_shape, least

ZERO = (0, ())


class Made(unittest.TestCase):
    def test_plain_and_alone(self):
        for number in (0, 1, -7, 10 ** 59):
            self.assertEqual(plain(number), (number, ()))
        for thing in (N0, X, Y, ROUNDS, ("len", R0), ("at", R0, ZERO), ("div", form(0, (N0, 1)), 2), ("at", ("rows", (ZERO,)), ZERO)):
            self.assertEqual(alone(thing), (0, ((thing, 1),)))

    def test_added(self):
        self.assertEqual(added(plain(2), plain(-5)), (-3, ()))
        self.assertEqual(added(alone(N1), alone(N0)), (0, ((N0, 1), (N1, 1))))
        self.assertEqual(added(form(1, (N0, 2), (N1, 3)), form(5, (N0, -2), (X, 1))), (6, ((N1, 3), (X, 1))))
        self.assertEqual(added(form(1, (N0, 2)), form(-1, (N0, -2))), ZERO)
        self.assertEqual(added(form(1, (N0, 2)), form(1, (N0, 2))), form(2, (N0, 4)))
        self.assertEqual(added(alone(ROUNDS), alone(Y)), (0, ((ROUNDS, 1), (Y, 1))))
        self.assertEqual(added(alone(X), alone(("len", R0))), (0, ((("len", R0), 1), (X, 1))))

    def test_times(self):
        one = form(-3, (N0, 2), (N1, -1))
        self.assertEqual(times(one, 3), form(-9, (N0, 6), (N1, -3)))
        self.assertEqual(times(one, 1), one)
        self.assertEqual(times(one, -1), form(3, (N0, -2), (N1, 1)))
        self.assertEqual(times(one, 0), ZERO)
        self.assertEqual(times(ZERO, 5), ZERO)

    def test_less(self):
        one = form(1, (N0, 2), (N1, 3))
        self.assertEqual(less(one, one), ZERO)
        self.assertEqual(less(one, plain(4)), form(-3, (N0, 2), (N1, 3)))
        self.assertEqual(less(plain(4), one), form(3, (N0, -2), (N1, -3)))
        self.assertEqual(less(one, form(0, (N0, 2), (X, 1))), form(1, (N1, 3), (X, -1)))

    def test_not_of(self):
        self.assertEqual(not_of(ZERO), (-1, ()))
        self.assertEqual(not_of(plain(-1)), (0, ()))
        self.assertEqual(not_of(form(3, (N0, 2))), form(-4, (N0, -2)))
        self.assertEqual(not_of(not_of(form(3, (N0, 2)))), form(3, (N0, 2)))

    def test_len_of(self):
        for row in (R0, T0, ROW, OLD):
            self.assertEqual(len_of(row), alone(("len", row)))
            self.assertEqual(len_of(("put", row, plain(9), ZERO)), alone(("len", row)))
            self.assertEqual(len_of(("more", row, ZERO)), form(1, (("len", row), 1)))
            self.assertEqual(len_of(("more", ("put", ("more", row, ZERO), ZERO, ZERO), ZERO)), form(2, (("len", row), 1)))
        for many in (0, 1, 2, 60):
            self.assertEqual(len_of(("rows", (alone(N0),) * many)), plain(many))
            self.assertEqual(len_of(("put", ("rows", (ZERO,) * many), plain(-1), ZERO)), plain(many))
            self.assertEqual(len_of(("more", ("rows", (ZERO,) * many), ZERO)), plain(many + 1))

    def test_at_of(self):
        rows = ("rows", (plain(5), form(1, (N0, 1)), alone(X)))
        for place, wanted in ((-10 ** 59, ZERO), (-3, ZERO), (-1, ZERO), (0, plain(5)), (1, form(1, (N0, 1))), (2, alone(X)), (3, ZERO),
                              (10 ** 59, ZERO)):
            self.assertEqual(at_of(rows, plain(place)), wanted)
        for place in (0, -1, 1):
            self.assertEqual(at_of(("rows", ()), plain(place)), ZERO)
        for place in (alone(N0), form(1, (N0, 1)), alone(X)):
            self.assertEqual(at_of(rows, place), alone(("at", rows, place)))
            self.assertEqual(at_of(("rows", ()), place), alone(("at", ("rows", ()), place)))
        for row in (R0, T0, ROW, OLD, ("put", rows, ZERO, ZERO), ("more", rows, ZERO)):
            for place in (ZERO, plain(-1), plain(1), alone(N0)):
                self.assertEqual(at_of(row, place), alone(("at", row, place)))

    def test_div_of(self):
        for number, n, wanted in ((7, 2, 3), (-7, 2, -4), (0, 2, 0), (-1, 99, -1), (99, 99, 1), (98, 99, 0), (10 ** 59, 10, 10 ** 58)):
            self.assertEqual(div_of(plain(number), n), plain(wanted))
        for one in (alone(N0), form(4, (N0, 2)), form(3, (X, 1))):
            self.assertEqual(div_of(one, 2), alone(("div", one, 2)))

    def test_in_models(self):
        for seed in range(300):
            former = Former(seed)
            one, other, row = former.form(4), former.form(4), former.row(4)
            number, n = former.number(), former.random.choice((2, 3, 99))
            before = copy.deepcopy((one, other, row))
            made = [added(one, other), times(one, number), less(one, other), not_of(one), len_of(row), at_of(row, one), div_of(one, n),
                    times(one, 0), at_of(row, plain(number)), div_of(plain(number), n), added(one, times(one, -1))]
            self.assertEqual((one, other, row), before)
            self.assertTrue(all(is_form_by_shape(told) for told in made))
            for _ in range(5):
                model = former.model()
                a, b, numbers = value_of(one, model), value_of(other, model), row_of(row, model)
                at = lambda place: numbers[place] if 0 <= place < len(numbers) else 0
                self.assertEqual([value_of(told, model) for told in made], [
                    a + b, number * a, a - b, -1 - a, len(numbers), at(a), a // n, 0, at(number), number // n, 0])
                self.assertIs(holds(("least", not_of(one)), model), not holds(("least", one), model))


class PutIn(unittest.TestCase):
    def told(self, thing, names, wanted):
        before = copy.deepcopy((thing, names))
        self.assertEqual(put_in(thing, names), wanted)
        self.assertEqual((thing, names), before)

    def test_numbers(self):
        names = {X: form(1, (N0, 2)), Y: plain(4), ROUNDS: alone(N1)}
        self.told(alone(X), names, form(1, (N0, 2)))
        self.told(form(5, (X, 3), (N0, 1), (Y, -1), (ROUNDS, 7)), names, form(4, (N0, 7), (N1, 7)))
        self.told(form(5, (X, 1), (N0, -2)), names, plain(6))
        self.told(form(0, (("div", alone(X), 3), 2)), names, form(0, (("div", form(1, (N0, 2)), 3), 2)))
        self.told(form(0, (("div", form(1, (Y, 1)), 3), 2)), names, plain(2))
        self.told(form(0, (("at", R0, alone(X)), 1)), names, form(0, (("at", R0, form(1, (N0, 2))), 1)))
        self.told(form(0, (("at", ("rows", (alone(X), ZERO)), alone(Y)), 1)), {X: alone(N0), Y: plain(0)}, alone(N0))

    def test_two_that_come_to_one(self):
        self.told(form(0, (("div", alone(X), 3), 2), (("div", alone(Y), 3), -2)), {X: alone(N0), Y: alone(N0)}, ZERO)
        self.told(form(0, (("div", alone(X), 3), 2), (("div", alone(Y), 3), 5)), {X: alone(N0), Y: alone(N0)},
                  form(0, (("div", alone(N0), 3), 7)))

    def test_rows(self):
        three = ("rows", (plain(5), alone(N0), plain(7)))
        names = {ROW: three, OLD: ("more", R1, plain(2))}
        for thing, wanted in (
                (ROW, three), (OLD, ("more", R1, plain(2))), (("put", ROW, ZERO, ZERO), ("put", three, ZERO, ZERO)),
                (("more", OLD, ZERO), ("more", ("more", R1, plain(2)), ZERO)),
                (alone(("len", ROW)), plain(3)), (alone(("len", OLD)), form(1, (("len", R1), 1))),
                (alone(("at", ROW, plain(1))), alone(N0)), (alone(("at", ROW, plain(3))), ZERO), (alone(("at", ROW, plain(-1))), ZERO),
                (alone(("at", ROW, alone(N1))), alone(("at", three, alone(N1)))),
                (alone(("at", OLD, ZERO)), alone(("at", ("more", R1, plain(2)), ZERO))),
                (("rows", (alone(("len", ROW)),)), ("rows", (plain(3),)))):
            self.told(thing, names, wanted)

    def test_facts(self):
        names = {X: alone(N0), ROW: R1}
        self.told(least(2, (X, 1)), names, least(2, (N0, 1)))
        self.told(("each", ROW, alone(X), form(1, (X, 1)), 3, -4, form(0, (X, 5))), names,
                  ("each", R1, alone(N0), form(1, (N0, 1)), 3, -4, form(0, (N0, 5))))
        self.told(("each", ("more", ROW, alone(X)), ZERO, alone(("len", ROW)), 1, 0, ZERO), {ROW: ("rows", ()), X: plain(2)},
                  ("each", ("more", ("rows", ()), plain(2)), ZERO, ZERO, 1, 0, ZERO))

    def test_within_row_terms(self):
        names = {X: plain(3), Y: alone(N1)}
        self.told(("rows", (alone(X), alone(Y), ZERO)), names, ("rows", (plain(3), alone(N1), ZERO)))
        self.told(("put", R0, alone(X), alone(Y)), names, ("put", R0, plain(3), alone(N1)))
        self.told(("more", R0, alone(Y)), names, ("more", R0, alone(N1)))
        self.told(("put", ("more", ("rows", (alone(X),)), alone(X)), alone(X), alone(X)), names,
                  ("put", ("more", ("rows", (plain(3),)), plain(3)), plain(3), plain(3)))

    def test_names_that_the_dict_has_not(self):
        one = form(2, (X, 1), (("len", ROW), 1), (("at", OLD, alone(Y)), 1), (ROUNDS, 4))
        self.told(one, {}, one)
        self.told(one, {("name", ("other",)): plain(1)}, one)
        self.told(one, {ROUNDS: plain(1)}, form(6, (X, 1), (("len", ROW), 1), (("at", OLD, alone(Y)), 1)))
        # A name that is and one that was are not the same.
        self.told(form(0, (("name", ("x",)), 1), (("was", ("x",)), 1)), {("was", ("x",)): plain(9)}, form(9, (("name", ("x",)), 1)))

    def test_all_at_once(self):
        self.told(form(0, (X, 1), (Y, 2)), {X: alone(Y), Y: alone(X)}, form(0, (Y, 1), (X, 2)))
        self.told(alone(X), {X: form(1, (X, 1))}, form(1, (X, 1)))
        self.told(("more", ROW, alone(X)), {ROW: ("more", ROW, alone(X)), X: form(1, (X, 1))},
                  ("more", ("more", ROW, alone(X)), form(1, (X, 1))))
        self.told(("put", ROW, ZERO, alone(("len", OLD))), {ROW: OLD, OLD: ROW}, ("put", OLD, ZERO, alone(("len", ROW))))
        # What is put is not made anew: it is as it was handed in.
        held = alone(("at", ("rows", (plain(5),)), ZERO))
        self.told(alone(X), {X: held}, held)
        self.told(ROW, {ROW: ("rows", (held,))}, ("rows", (held,)))

    def test_made_anew_where_no_name_stood(self):
        rows = ("rows", (plain(5), alone(N0)))
        self.told(form(1, (("at", rows, plain(1)), 2)), {}, form(1, (N0, 2)))
        self.told(form(1, (("at", rows, plain(2)), 2)), {}, plain(1))
        self.told(form(1, (("div", plain(-7), 2), 2)), {}, plain(-7))
        self.told(form(1, (("div", alone(("div", plain(9), 2)), 3), 2)), {}, plain(3))
        self.told(("rows", (alone(("div", plain(9), 2)),)), {}, ("rows", (plain(4),)))
        self.told(("more", R0, alone(("at", ("rows", ()), ZERO))), {}, ("more", R0, ZERO))
        self.told(("put", R0, alone(("div", plain(9), 2)), alone(("div", plain(8), 9))), {}, ("put", R0, plain(4), ZERO))
        self.told(("each", ("rows", (alone(("div", plain(9), 2)),)), alone(("div", plain(9), 2)), alone(("div", plain(9), 3)), 1, 2,
                   alone(("div", plain(9), 4))), {}, ("each", ("rows", (plain(4),)), plain(4), plain(3), 1, 2, plain(2)))
        self.told(least(0, (("at", rows, alone(("div", plain(2), 2))), 1)), {}, least(0, (N0, 1)))

    def test_row_terms_stay_as_they_are(self):
        for one in (R0, T0, ("put", ("rows", (plain(1),)), ZERO, plain(2)), ("more", ("rows", ()), ZERO), ("rows", ())):
            self.told(one, {}, one)

    def test_in_models(self):
        asked = 0
        for seed in range(500):
            former = Former(seed)
            thing = former.thing_of_three(5)
            names = {}
            for name in (X, Y, ROUNDS):
                if former.random.random() < 0.7:
                    names[name] = former.form(4)
            for name in (ROW, OLD):
                if former.random.random() < 0.7:
                    names[name] = former.row(4)
            before = copy.deepcopy((thing, names))
            told = put_in(thing, names)
            self.assertEqual((thing, names), before)
            for _ in range(5):
                model = former.model()
                inner = dict(model)
                for name, put in names.items():
                    inner[name] = row_of(put, model) if name in (ROW, OLD) else value_of(put, model)
                if type(thing[0]) is int:
                    self.assertTrue(is_form_by_shape(told))
                    self.assertEqual(value_of(told, model), value_of(thing, inner))
                elif thing[0] in ("least", "each"):
                    self.assertEqual(told[0], thing[0])
                    self.assertIs(holds(told, model), holds(thing, inner))
                else:
                    self.assertEqual(row_of(told, model), row_of(thing, inner))
                asked += told != thing
        self.assertGreater(asked, 1000)

    def test_told_may_be_handed_in_again(self):
        one = alone(X)
        for _ in range(100):
            one = put_in(form(1, (("at", R0, alone(X)), 1)), {X: one})
        self.assertEqual(value_of(one, {R0: tuple(range(60))}), 40)
        row = ROW
        for _ in range(300):
            row = put_in(("more", ROW, alone(("len", ROW))), {ROW: row})
        self.assertEqual(row_of(row, {ROW: (7,)}), (7,) + tuple(range(1, 301)))
        self.assertEqual(len_of(row), form(300, (("len", ROW), 1)))


if __name__ == "__main__":
    unittest.main()
