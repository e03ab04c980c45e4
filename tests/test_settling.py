"""Facts settled in a room: a model, or a refutation (points 41 and 42)."""

import copy
import itertools
import unittest

from everyfork.refuting import refutes
from everyfork.settling import facts_of_room, settled, unknowns_of
from everyfork.terms import is_fact
from tests.formed import N0, N1, R0, R1, T0, T1, Former, form, least, stands

ZERO = (0, ())


def number(value):
    return (value, ())


def at(row, place, often=1):
    return (("at", row, place), often)


def lens(row, often=1):
    return (("len", row), often)


def same(*pairs):
    """The two facts that a form is 0."""
    return [least(*pairs), least(-pairs[0], *[(thing, -often) for thing, often in pairs[1:]])]


def values_of(unknown, room):
    """All values of an unknown in a room, the long way."""
    if unknown[0] == "n":
        return list(range(room[0], room[1] + 1))
    ends = range(room[3], room[4] + 1) if unknown[0] == "t" else range(room[0], room[1] + 1)
    choices = [one for one in ends if unknown[0] == "r" or one != 37]
    return [one for long in range(room[2] + 1) for one in itertools.product(choices, repeat=long)]


def models_of(unknowns, room):
    """All models of unknowns in a room, the long way."""
    return [dict(zip(unknowns, one)) for one in itertools.product(*[values_of(unknown, room) for unknown in unknowns])]


class Unknowns(unittest.TestCase):
    def test_none(self):
        self.assertEqual(unknowns_of([]), [])
        self.assertEqual(unknowns_of([least(1), ("each", ("rows", (ZERO,)), ZERO, ZERO, 1, 1, ZERO)]), [])

    def test_from_every_place(self):
        n = form(1, (N1, 2))
        for fact in (least(0, (N1, 1)), least(0, (("div", n, 2), 1)), least(0, at(("rows", ()), n)), least(0, at(("rows", (ZERO, n)), ZERO)),
                     ("each", ("rows", ()), n, ZERO, 1, 1, ZERO), ("each", ("rows", ()), ZERO, n, 1, 1, ZERO),
                     ("each", ("rows", ()), ZERO, ZERO, 1, 1, n), ("each", ("rows", (n,)), ZERO, ZERO, 1, 1, ZERO)):
            self.assertEqual(unknowns_of([least(0), fact, fact]), [N1])
        for row in (R1, T1):
            for fact in (least(0, lens(row)), least(0, at(row, ZERO)), least(0, at(("put", row, ZERO, ZERO), ZERO)),
                         least(0, at(("more", row, ZERO), ZERO)), ("each", row, ZERO, ZERO, 1, 1, ZERO),
                         ("each", ("more", row, ZERO), ZERO, ZERO, 1, 1, ZERO), least(0, at(("put", ("rows", ()), form(0, lens(row)), ZERO), ZERO))):
                self.assertEqual(unknowns_of([fact]), [row])

    def test_rising_each_once(self):
        facts = [least(0, (("n", 10), 1), (("n", 9), 1)), least(0, lens(T0), at(R1, form(0, (N0, 1)))), least(0, lens(T1), lens(R0)),
                 least(0, (N0, 1), lens(R1))]
        self.assertEqual(unknowns_of(facts), [N0, ("n", 9), ("n", 10), R0, R1, T0, T1])
        self.assertEqual(unknowns_of(list(reversed(facts))), [N0, ("n", 9), ("n", 10), R0, R1, T0, T1])

    def test_told_anew(self):
        facts = [least(0, (N0, 1))]
        told = unknowns_of(facts)
        self.assertIs(type(told), list)
        told.clear()
        self.assertEqual(unknowns_of(facts), [N0])
        self.assertEqual(facts, [least(0, (N0, 1))])


class RoomFacts(unittest.TestCase):
    ROOM = (-2, 5, 3, 40, 90)

    def test_each_unknown(self):
        for k in (0, 7):
            n, r, t = ("n", k), ("r", k), ("t", k)
            self.assertEqual(facts_of_room([n], self.ROOM), [least(2, (n, 1)), least(5, (n, -1))])
            self.assertEqual(facts_of_room([r], self.ROOM), [
                least(3, lens(r, -1)), ("each", r, ZERO, number(3), 1, 0, number(2)), ("each", r, ZERO, number(3), -1, 0, number(5))])
            self.assertEqual(facts_of_room([t], self.ROOM), [
                least(3, lens(t, -1)), ("each", t, ZERO, number(3), 1, 0, number(-40)), ("each", t, ZERO, number(3), -1, 0, number(90))])

    def test_in_their_order(self):
        one = facts_of_room([T0], self.ROOM) + facts_of_room([N1], self.ROOM) + facts_of_room([R0], self.ROOM) + facts_of_room([N0], self.ROOM)
        unknowns = [T0, N1, R0, N0]
        self.assertEqual(facts_of_room(unknowns, self.ROOM), one)
        self.assertEqual(unknowns, [T0, N1, R0, N0])
        self.assertEqual(facts_of_room([], self.ROOM), [])

    def test_the_edges(self):
        room = (0, 0, 0, 37, 37)
        self.assertEqual(facts_of_room([N0, R0], room), [
            least(0, (N0, 1)), least(0, (N0, -1)), least(0, lens(R0, -1)), ("each", R0, ZERO, ZERO, 1, 0, ZERO), ("each", R0, ZERO, ZERO, -1, 0, ZERO)])

    def test_told_anew(self):
        told = facts_of_room([N0], self.ROOM)
        self.assertIs(type(told), list)
        told.clear()
        self.assertEqual(len(facts_of_room([N0], self.ROOM)), 2)


class Settled(unittest.TestCase):
    def told(self, facts, room):
        """The answer, looked at from all sides."""
        before = copy.deepcopy((facts, room))
        told = settled(facts, room)
        self.assertEqual((facts, room), before)
        unknowns = unknowns_of(facts)
        wanted = [model for model in models_of(unknowns, room) if all(stands(fact, model) for fact in facts)]
        self.assertIs(type(told), tuple)
        self.assertEqual(len(told), 2)
        if told[0] == "model":
            self.assertIs(type(told[1]), dict)
            self.assertIn(told[1], wanted)
            self.assertEqual(sorted(told[1]), unknowns)
            for one in told[1].values():
                self.assertIn(type(one), (int, tuple))
        else:
            self.assertEqual(told[0], "refuted")
            self.assertEqual(wanted, [])
            self.assertIs(type(told[1]), tuple)
            self.assertIs(refutes(facts + facts_of_room(unknowns, room), told[1]), True, (facts, room))
        return told

    def model(self, facts, room, wanted=None):
        told = self.told(facts, room)
        self.assertEqual(told[0], "model", facts)
        if wanted is not None:
            self.assertEqual(told[1], wanted)

    def refuted(self, facts, room):
        self.assertEqual(self.told(facts, room)[0], "refuted", facts)

    ROOM = (-2, 2, 2, 97, 98)

    def test_no_facts(self):
        self.model([], self.ROOM, {})

    def test_without_unknowns(self):
        self.model([least(0), least(5)], self.ROOM, {})
        self.refuted([least(-1)], self.ROOM)
        self.refuted([least(0), least(4), least(-7), least(-9)], self.ROOM)
        self.refuted([least(-1, (("div", number(-7), 2), 1))], self.ROOM)
        self.model([least(4, (("div", number(-7), 2), 1))], self.ROOM, {})
        self.refuted([least(-6, at(("rows", (number(5), number(6))), ZERO))], self.ROOM)
        self.model([least(-6, at(("rows", (number(5), number(6))), number(1)))], self.ROOM, {})
        self.refuted([("each", ("rows", (number(5), number(6))), ZERO, number(2), -1, 0, number(5))], self.ROOM)
        self.refuted([("each", ("more", ("rows", ()), number(6)), number(-9), number(9), -1, 0, number(5))], self.ROOM)
        self.model([("each", ("rows", ()), number(-9), number(9), 0, 0, number(-1))], self.ROOM, {})

    def test_numbers(self):
        for value in range(-4, 5):
            facts = same(-value, (N0, 1))
            if -2 <= value <= 2:
                self.model(facts, self.ROOM, {N0: value})
            else:
                self.refuted(facts, self.ROOM)
        self.refuted(same(-1, (N0, 2)), self.ROOM)
        self.refuted(same(0, (N0, 2), (N1, -2)) + [least(-1, (N0, 1), (N1, -1))], self.ROOM)
        self.model(same(-3, (N0, 1), (N1, 1)) + [least(0, (N0, 1), (N1, -1))], self.ROOM, {N0: 2, N1: 1})
        self.refuted(same(-7, (N0, 2), (N1, 3)) + [least(-1, (N1, -1))], self.ROOM)

    def test_one_number(self):
        self.model([least(0, (N0, 1))], (3, 3, 0, 32, 32), {N0: 3})
        self.refuted([least(-4, (N0, 1))], (3, 3, 0, 32, 32))
        self.refuted([least(0, (N0, -1)), least(9, (N1, 1))], (9, 9, 0, 32, 32))

    def test_quotients(self):
        for n in (2, 3, 99):
            for value in range(-9, 10):
                one = ("div", form(0, (N0, 1)), n)
                self.model(same(-(value // n), (one, 1)) + same(-value, (N0, 1)), (-9, 9, 0, 32, 32), {N0: value})
                self.refuted(same(-(value // n) - 1, (one, 1)) + same(-value, (N0, 1)), (-9, 9, 0, 32, 32))
                self.refuted(same(1 - (value // n), (one, 1)) + same(-value, (N0, 1)), (-9, 9, 0, 32, 32))
        # n is half of 2n + 1; and a quotient of a quotient.
        half = ("div", form(1, (N0, 2)), 2)
        self.model(same(0, (half, 1), (N0, -1)), self.ROOM)
        self.refuted([least(-1, (half, 1), (N0, -1))], self.ROOM)
        self.refuted([least(-1, (half, -1), (N0, 1))], self.ROOM)
        self.refuted([least(-1, (("div", form(0, (half, 1)), 3), 1))], self.ROOM)

    def test_rows(self):
        self.model(same(-2, lens(R0)) + same(-2, at(R0, ZERO)) + same(1, at(R0, number(1))), self.ROOM, {R0: (2, -1)})
        self.refuted(same(-3, lens(R0)), self.ROOM)
        self.refuted([least(-1, lens(R0, -1))], self.ROOM)
        self.refuted([least(-3, at(R0, ZERO))], self.ROOM)
        self.refuted([least(-3, at(R0, ZERO, -1))], self.ROOM)
        self.refuted([least(-1, at(R0, ZERO)), least(0, lens(R0, -1))], self.ROOM)
        self.refuted([least(-1, at(R0, number(-1)))], self.ROOM)
        self.refuted([least(-1, at(R0, number(2)))], self.ROOM)
        self.refuted([least(-1, at(R0, number(7), -1))], self.ROOM)
        self.model([least(-1, at(R0, number(1)))], self.ROOM)
        self.refuted([least(-1, at(R0, number(1))), least(1, lens(R0, -1))], self.ROOM)

    def test_places_that_are_not_plain(self):
        room = (-1, 2, 2, 97, 97)
        there = at(R0, form(0, (N0, 1)))
        self.model([least(-2, there), least(-1, (N0, 1))], room)
        self.refuted([least(-1, there), least(-1, (N0, -1))], room)
        self.refuted([least(-1, there), least(-2, (N0, 1))], room)
        self.refuted([least(-3, there)], room)
        self.refuted([least(-1, there), least(0, at(R0, ZERO, -1)), least(0, at(R0, number(1), -1))], room)
        self.refuted([least(-1, at(R0, form(0, there))), least(-1, at(R0, ZERO, -1)), least(0, (N0, -1))], room)

    def test_texts(self):
        self.model(same(-2, lens(T0)) + same(-97, at(T0, ZERO)) + same(-98, at(T0, number(1))), self.ROOM, {T0: (97, 98)})
        self.refuted(same(-99, at(T0, ZERO)), self.ROOM)
        self.refuted([least(96, at(T0, ZERO, -1)), least(-1, lens(T0))], self.ROOM)
        self.refuted(same(-2, lens(T0)) + [least(-1, at(T0, ZERO), at(T0, number(1), -1)), least(-98, at(T0, number(1)))], self.ROOM)

    def test_rooms_with_37(self):
        first = at(T0, ZERO)
        self.model([], (0, 0, 2, 37, 37), {})
        self.model([least(0, lens(T0))], (0, 0, 2, 37, 37), {T0: ()})
        self.refuted([least(-1, lens(T0))], (0, 0, 2, 37, 37))
        self.refuted([least(-1, lens(T0))], (0, 0, 3, 37, 37))
        self.refuted([least(-1, first)], (0, 0, 1, 37, 37))
        for low, high in ((36, 38), (36, 37), (37, 38), (32, 37), (37, 126), (32, 126), (35, 39)):
            room = (0, 0, 1, low, high)
            self.refuted(same(-37, first), room)
            for value in range(low, high + 1):
                if value != 37:
                    self.model(same(-value, first), room, {T0: (value,)})
            self.refuted(same(1 - low, first), room)
            self.refuted(same(-1 - high, first), room)
        both = same(-74, at(T0, ZERO), at(T0, number(1))) + same(-2, lens(T0))
        self.model(both, (0, 0, 2, 36, 38))
        self.refuted(both + [least(36, at(T0, ZERO, -1)), least(37, at(T0, number(1), -1))], (0, 0, 2, 36, 38))

    def test_rows_made(self):
        room = (-1, 2, 2, 97, 97)
        here, there = form(0, (N0, 1)), form(0, (N1, 1))
        for row in (("put", R0, here, number(7)), ("more", R0, number(7)), ("put", ("more", R0, number(6)), here, number(7)),
                    ("more", ("put", R0, here, number(6)), number(7)), ("rows", (number(7), here, number(5)))):
            # Nothing in it is more than 7, and with at least one in it is 7 some time, at some place.
            self.refuted([least(-8, at(row, here))], room)
            self.told([least(-7, at(row, here))], room)
            self.told([least(-6, at(row, here)), least(0, lens(R0, -1)), least(0, lens(R0))], room)
            for fact in (least(-7, at(row, there)), least(-8, at(row, there)), least(-2, at(row, there, -1))):
                self.told([fact, least(0, lens(R0, -1))], (-1, 1, 1, 97, 97))
                self.told([fact], (0, 1, 1, 97, 97))

    def test_each_facts(self):
        room = (-1, 2, 2, 97, 97)
        rising = ("each", R0, ZERO, number(2), 1, -1, ZERO)
        self.model([rising, least(-2, lens(R0))], room)
        self.refuted([rising, least(-1, at(R0, ZERO, -1))], room)
        self.refuted([rising, least(-2, lens(R0)), least(0, at(R0, number(1), -1))], room)
        self.refuted([("each", R0, form(0, (N0, 1)), form(1, (N0, 1)), 1, 0, number(-3)), least(-1, lens(R0)), least(0, (N0, 1)), least(0, (N0, -1))], room)
        self.model([("each", R0, form(0, (N0, 1)), form(1, (N0, 1)), 1, 0, number(-3)), least(-1, lens(R0))], room)
        self.refuted([("each", ("more", R0, number(5)), ZERO, number(9), -1, 0, number(4))], room)
        self.refuted([("each", ("put", R0, ZERO, form(0, (N0, 1))), ZERO, number(1), 1, 0, form(-1, (N0, -1))), least(-1, lens(R0))], room)
        self.refuted([("each", T0, ZERO, number(1), 0, 0, number(-1)), least(-1, lens(T0))], room)

    def test_many_facts_many_unknowns(self):
        # A hundred unknowns with one value each.
        facts = [least(0, *[(("n", k), 1) for k in range(100)]), least(0, *[lens(("r", k)) for k in range(60)]), least(-1, *[lens(("t", k)) for k in range(60)])]
        self.refuted(facts, (0, 0, 0, 32, 32))
        self.model(facts[:2], (0, 0, 0, 32, 32))
        facts = [least(-1, (("n", 0), -1))] + [least(0, (("n", k), 1)) for k in range(300)]
        self.refuted(facts, (0, 0, 0, 32, 32))

    def test_four_hundred(self):
        two = ("div", form(0, (N0, 1), (N1, 1)), 2)
        self.refuted(same(-10, (N0, 1), (N1, 1)) + [least(-6, (two, 1))], (-9, 9, 0, 32, 32))
        self.model(same(-10, (N0, 1), (N1, 1)) + [least(-5, (two, 1)), least(-9, (N1, 1))], (-9, 9, 0, 32, 32), {N0: 1, N1: 9})
        self.refuted([least(-2, at(R0, ZERO), at(R0, number(1)), at(R0, number(2))), least(0, at(R0, number(2), -1)), least(1, at(R0, ZERO, -1)),
                      least(0, at(R0, number(1), -1))], (-3, 3, 3, 32, 32))
        self.refuted([least(-1, at(T0, ZERO), at(T0, number(1), -1)), least(-1, at(T0, number(1)), at(T0, ZERO, -1))], (0, 0, 2, 32, 51))
        self.refuted([("each", T0, ZERO, number(2), 0, 0, number(-1)), least(-2, lens(T0))], (0, 0, 2, 33, 51))

    def test_what_several_need_is_told_once(self):
        """Steps over one unknown are not done anew for each value of another."""
        deep = form(0, (("div", form(0, (("div", form(0, (("div", form(0, (N0, 7)), 2), 3)), 2), 5)), 2), 1))
        facts = [least(-10 ** 6, deep[1][0], (N1, 1), (("div", form(1, (N0, 1)), 3), 1))]
        told = self.told(facts, (-9, 9, 0, 32, 32))
        self.assertEqual(told[0], "refuted")
        # Each of 361 models by itself would take some twenty.
        self.assertLess(len(told[1]), 1500)

    def test_great_numbers(self):
        great = 10 ** 59
        self.refuted([least(-great, (N0, great)), least(great - 1, (N0, -great))], self.ROOM)
        self.model([least(-great, (N0, great)), least(great, (N0, -great))], self.ROOM, {N0: 1})
        self.refuted([least(-1, at(R0, form(great, (N0, great)))), least(0, (N0, 1))], self.ROOM)

    def test_made_ones(self):
        rooms = ((-1, 1, 1, 36, 38), (0, 2, 1, 37, 37), (-2, 2, 2, 97, 97), (0, 0, 0, 32, 32), (-1, 0, 2, 36, 37), (3, 3, 3, 37, 38),
                 (-9, 9, 0, 32, 126), (0, 1, 3, 97, 97), (-3, -2, 1, 125, 126))
        asked = {"model": 0, "refuted": 0}
        for seed in range(900):
            former = Former(seed, numbers=(N0, ("n", 3)), rows=(R0, T1), most=3)
            facts = [former.fact(former.random.randint(1, 7)) for _ in range(former.random.randint(0, 4))]
            facts = [fact for fact in facts if is_fact(fact)]
            room = former.random.choice(rooms)
            many = 1
            for unknown in unknowns_of(facts):
                many *= len(values_of(unknown, room))
            if many <= 400:
                asked[self.told(facts, room)[0]] += 1
        self.assertGreater(min(asked.values()), 200)

    def test_deep_ones(self):
        asked = {"model": 0, "refuted": 0}
        for seed in range(60):
            former = Former(seed, numbers=(N0,), rows=(R0, T1), most=3)
            facts = []
            while len(facts) < 3:
                fact = former.fact(12)
                if is_fact(fact) and len(repr(fact)) > 300:
                    facts.append(fact)
            asked[self.told(facts, (-1, 1, 1, 36, 38))[0]] += 1
        self.assertGreater(min(asked.values()), 10)

    def test_told_anew(self):
        facts = [least(0, (N0, 1))]
        told = settled(facts, self.ROOM)
        told[1].clear()
        self.assertEqual(list(settled(facts, self.ROOM)[1]), [N0])
        self.assertEqual(facts, [least(0, (N0, 1))])


if __name__ == "__main__":
    unittest.main()
