"""Sums found (point 40)."""

import copy
import math
import random
import unittest
from fractions import Fraction

from everyfork.facts import holds
from everyfork.refuting import laid
from everyfork.summing import summed
from tests.formed import N0, N1, R0, T0, X, Former, form, least

ZERO = (0, ())
EACH = ("each", R0, ZERO, (9, ()), 1, 0, (-9, ()))
THINGS = (N0, N1, ("n", 2), X, ("len", R0), ("len", T0), ("at", R0, ZERO), ("div", form(0, (N0, 1)), 2), ("was", ("a",)), ("rounds",),
          ("at", ("rows", (ZERO,)), form(0, (N1, 1))), ("at", T0, ZERO))


def has_sum(facts):
    """Whether least facts over few things have a sum: things go out one by one, by each pair of facts."""
    rows = [(Fraction(fact[1][0]), dict(fact[1][1])) for fact in facts if fact[0] == "least"]
    for thing in sorted({thing for _, parts in rows for thing in parts}):
        above = [row for row in rows if row[1].get(thing, 0) > 0]
        below = [row for row in rows if row[1].get(thing, 0) < 0]
        rows = [row for row in rows if row[1].get(thing, 0) == 0]
        for one in above:
            for other in below:
                a, b = one[1][thing], -other[1][thing]
                parts = {x: one[1].get(x, 0) * b + other[1].get(x, 0) * a for x in {*one[1], *other[1]}}
                rows.append((one[0] * b + other[0] * a, parts))
    return any(number < 0 for number, _ in rows)


class Summed(unittest.TestCase):
    def found(self, facts):
        """The sum that is told is right for the list."""
        before = copy.deepcopy(facts)
        told = summed(facts)
        self.assertEqual(facts, before)
        self.assertIsNotNone(told, facts)
        self.assertEqual(laid(facts, told), [], told)
        return told

    def none(self, facts):
        before = copy.deepcopy(facts)
        self.assertIsNone(summed(facts), facts)
        self.assertEqual(facts, before)

    def test_no_facts(self):
        self.none([])
        self.none([EACH])
        self.none([EACH, ("each", ("rows", ((-9, ()),)), ZERO, (9, ()), 1, 0, ZERO)])

    def test_one_fact(self):
        self.assertEqual(self.found([least(-1)]), ("sum", ((0, 1),)))
        self.found([least(-10 ** 12)])
        self.none([least(0)])
        self.none([least(1)])
        self.none([least(-1, (N0, 1))])
        self.none([least(-1, (N0, -1))])

    def test_two_facts(self):
        self.assertEqual(self.found([least(-1, (N0, 1)), least(0, (N0, -1))]), ("sum", ((0, 1), (1, 1))))
        self.none([least(-1, (N0, 1)), least(1, (N0, -1))])
        self.none([least(-1, (N0, 1)), least(0, (N1, -1))])
        self.assertEqual(self.found([least(-1, (N0, 3)), least(0, (N0, -5))]), ("sum", ((0, 5), (1, 3))))
        self.none([least(-1, (N0, 3)), least(2, (N0, -5))])
        self.none([least(-3, (N0, 3)), least(5, (N0, -5))])
        self.found([least(-3, (N0, 3)), least(4, (N0, -5))])
        self.none([least(-1, (N0, 1)), least(0, (N0, 1))])

    def test_no_sum_though_no_model(self):
        """2n is 1: no whole number, but a sum does not tell that."""
        self.none([least(-1, (N0, 2)), least(1, (N0, -2))])

    def test_each_facts_are_looked_over(self):
        told = self.found([EACH, least(-1, (N0, 1)), EACH, EACH, least(0, (N0, -1)), EACH])
        self.assertEqual(told, ("sum", ((1, 1), (4, 1))))
        self.found([EACH, least(-1)])

    def test_the_like_fact_twice(self):
        self.found([least(-1, (N0, 1)), least(-1, (N0, 1)), least(0, (N0, -1)), least(0, (N0, -1))])
        self.none([least(-1, (N0, 1))] * 5)

    def test_things_of_every_kind(self):
        for thing in THINGS:
            self.found([least(4), least(-3, (thing, 2)), EACH, least(1, (thing, -1))])
            self.none([least(4), least(-3, (thing, 2)), EACH, least(2, (thing, -1))])
        self.none([least(-1, (("at", R0, ZERO), 1)), least(0, (("at", R0, (1, ())), -1))])

    def test_chains(self):
        """Each thing is above the one ahead, and the last is below the first."""
        things = sorted(THINGS)
        for many in range(2, 13):
            chain = [least(-1, (things[k], -1), (things[k + 1], 1)) for k in range(many - 1)]
            self.none(chain)
            told = self.found(chain + [least(many - 2, (things[0], 1), (things[many - 1], -1))])
            self.assertEqual(len(told[1]), many)
            self.none(chain + [least(many - 1, (things[0], 1), (things[many - 1], -1))])

    def test_great_times(self):
        """Each thing is three times the one ahead, or more."""
        for often in (3, 10 ** 11):
            chain = [least(0, (("n", k), -often), (("n", k + 1), 1)) for k in range(11)]
            facts = chain + [least(-1, (N0, 1)), least(-1 + often ** 11 if often == 3 else 10 ** 12 - 1, (("n", 11), -1))]
            told = self.found(facts)
            self.assertGreater(max(times for _, times in told[1]), often ** 8)
            self.none(facts[:-1])
            self.none(facts[:5] + facts[6:])

    def test_thirty_facts_over_twelve_things(self):
        """Lists with a sum in them, hidden among others: a sum is told; lists with a common point: none."""
        for seed in range(60):
            rng = random.Random(seed)
            great = 10 ** 12 - 1 if seed % 2 else 9
            things = sorted(THINGS)
            point = {thing: rng.randint(-5, 5) for thing in things}
            facts, total, spare = [], {}, 0
            for _ in range(29):
                parts = {thing: rng.randint(-great // 400 - 1, great // 400 + 1) for thing in things if rng.random() < 0.7}
                parts = {thing: often for thing, often in parts.items() if often}
                worth = sum(often * point[thing] for thing, often in parts.items())
                for thing, often in parts.items():
                    total[thing] = total.get(thing, 0) - often
                more = rng.choice((0, 0, 1))
                spare += more
                facts.append(least(more - worth, *parts.items()))
            self.none(facts)
            total = {thing: often for thing, often in total.items() if often}
            number = -sum(fact[1][0] for fact in facts)
            self.none(facts + [least(number + spare, *total.items())])
            last = least(number - 1, *total.items())
            self.assertLess(max(map(abs, [number] + list(total.values()))), 10 ** 12)
            place = rng.randint(0, 29)
            told = self.found(facts[:place] + [last] + facts[place:])
            self.assertIn(place, [number for number, _ in told[1]])

    def test_times_have_nothing_in_common(self):
        for facts in ([least(-2, (N0, 6)), least(0, (N0, -4))], [least(-1, (N0, 10)), least(0, (N0, -10))],
                      [least(0, (N0, 4), (N1, 2)), least(-1, (N0, -6)), least(0, (N1, -8))]):
            told = self.found(facts)
            self.assertEqual(math.gcd(*[times for _, times in told[1]]), 1)
        self.assertEqual(self.found([least(-2, (N0, 6)), least(0, (N0, -4))]), ("sum", ((0, 2), (1, 3))))

    def test_just_where_there_is_one(self):
        both = {True: 0, False: 0}
        for seed in range(1500):
            rng = random.Random(seed)
            facts = []
            for _ in range(rng.randint(1, 7)):
                parts = [(thing, rng.choice((-3, -2, -1, 1, 2, 3))) for thing in THINGS[:rng.randint(1, 4)] if rng.random() < 0.7]
                facts.append(least(rng.randint(-4, 3), *parts) if rng.random() < 0.9 else EACH)
            wanted = has_sum(facts)
            both[wanted] += 1
            if wanted:
                self.found(facts)
            else:
                self.none(facts)
        self.assertGreater(min(both.values()), 300)

    def test_what_is_summed_holds_in_no_model(self):
        asked = 0
        for seed in range(400):
            former = Former(seed)
            facts = [former.fact(3) for _ in range(8)]
            told = summed(facts)
            if told is not None:
                self.assertEqual(laid(facts, told), [])
                asked += 1
                for _ in range(10):
                    model = former.model()
                    self.assertFalse(all(holds(fact, model) for fact in facts))
        self.assertGreater(asked, 20)

    def test_somewhat_beyond(self):
        facts = [least(-1, (("n", k), -1), (("n", k + 1), 1)) for k in range(60)]
        self.none(facts)
        self.found(facts + [least(0, (N0, 1), (("n", 60), -1))])
        self.found([least(-10 ** 59, (N0, 10 ** 59)), least(1, (N0, -2))])


if __name__ == "__main__":
    unittest.main()
