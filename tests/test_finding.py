"""The least input for a spot, for each why, and one whose run is dry (points 26, 27 and 28)."""

import copy
import unittest

from everyfork.finding import ends_all, failing, met_by
from everyfork.programs import right_program, spots_of
from everyfork.rooms import how_many, inputs
from everyfork.running import run
from tests.samples import Maker, function

N, T, R = ("var", "n"), ("var", "t"), ("var", "r")


def num(number):
    return ("num", number)


# main calls low for numbers below 0, and its sayings break in several ways; never is called by nobody.
CALLS = ((), (
    function((
        ("if", ("less", N, num(0)), (("call", "i", "low", (N,)),), (("let", "i", num(1)),)),
        ("say", "high", ("less", N, num(3))),
        ("let", "i", ("at", ("rows", (num(5), num(6))), N)),
        ("give", ("var", "i")),
    ), (("n", "num"),), (("i", "num"),), "num", "main"),
    function((
        ("say", "low", ("less", num(-3), ("var", "x"))),
        ("if", ("same", ("var", "x"), num(-2)), (("give", ("at", ("rows", ()), ("var", "x"))),), ()),
        ("say", "one", ("not", ("same", ("var", "x"), num(-1)))),
    ), (("x", "num"),), (), "num", "low"),
    function((("let", "x", num(1)),), (("x", "num"),), (), "num", "never"),
))
ROOM = (-9, 9, 0, 32, 32)

# Goes round n times, for n below 0 for ever.
ROUND = ((), (function((
    ("while", ("not", ("same", N, num(0))), (("let", "n", ("sub", N, num(1))),)),
    ("give", num(7)),
), (("n", "num"),), (), "num", "main"),))


def of_two(c):
    """A program over two numbers that forks by a condition."""
    return ((), (function((("if", c, (("give", num(1)),), ()), ("give", num(2))), (("n", "num"), ("m", "num")), (), "num", "main"),))


class Met(unittest.TestCase):
    def test_lines_ways_and_breaks(self):
        right_program(CALLS)
        wanted = {
            ("line", "main", 0): (0,), ("way", "main", 0, True): (-1,), ("way", "main", 0, False): (0,),
            ("line", "main", 1): (-1,), ("line", "main", 2): (0,), ("line", "main", 3): (0,),
            ("breaks", "main", 3, "high"): (3,), ("line", "main", 4): (0,), ("breaks", "main", 4, "range"): (2,),
            ("line", "main", 5): (0,),
            ("line", "low", 0): (-1,), ("breaks", "low", 0, "low"): (-3,), ("line", "low", 1): (-1,),
            ("way", "low", 1, True): (-2,), ("way", "low", 1, False): (-1,), ("line", "low", 2): (-2,),
            ("breaks", "low", 2, "range"): (-2,), ("line", "low", 3): (-1,), ("breaks", "low", 3, "one"): (-1,),
            ("line", "never", 0): None,
        }
        self.assertEqual(list(wanted), spots_of(CALLS))
        for spot, given in wanted.items():
            self.assertEqual(met_by(CALLS, "main", ROOM, 400, spot), given, spot)

    def test_of_another_function(self):
        self.assertEqual(met_by(CALLS, "low", ROOM, 400, ("way", "low", 1, False)), (0,))
        self.assertEqual(met_by(CALLS, "low", ROOM, 400, ("breaks", "low", 2, "range")), (-2,))
        self.assertIsNone(met_by(CALLS, "low", ROOM, 400, ("line", "main", 0)))
        self.assertEqual(met_by(CALLS, "never", ROOM, 400, ("line", "never", 0)), (0,))

    def test_none_in_this_room(self):
        self.assertIsNone(met_by(CALLS, "main", (0, 2, 0, 32, 32), 400, ("breaks", "main", 3, "high")))
        self.assertEqual(met_by(CALLS, "main", (5, 9, 0, 32, 32), 400, ("breaks", "main", 3, "high")), (5,))

    def test_like_size(self):
        room = (-2, 2, 0, 32, 32)
        n, m = ("var", "n"), ("var", "m")
        three = ("same", ("add", n, m), num(3))
        self.assertEqual(met_by(of_two(three), "main", room, 9, ("way", "main", 0, True)), (1, 2))
        self.assertEqual(met_by(of_two(("same", n, num(1))), "main", room, 9, ("way", "main", 0, True)), (1, 0))
        either = ("or", ("same", ("sub", n, m), num(1)), ("same", ("sub", m, n), num(1)))
        self.assertEqual(met_by(of_two(either), "main", room, 9, ("way", "main", 0, True)), (-1, 0))
        self.assertEqual(met_by(of_two(("not", ("same", n, m))), "main", (0, 2, 0, 32, 32), 9, ("way", "main", 0, True)), (0, 1))

    def test_rows_and_texts(self):
        body = (("if", ("and", ("same", ("len", T), num(1)), ("same", ("len", R), num(2))), (("give", ("at", T, num(0))),), ()),)
        thing = ((), (function(body, (("t", "text"), ("r", "row")), (), "num", "main"),))
        self.assertEqual(met_by(thing, "main", (-1, 1, 2, 97, 98), 9, ("line", "main", 1)), ("a", (0, 0)))
        self.assertEqual(met_by(thing, "main", (1, 1, 2, 36, 37), 9, ("line", "main", 1)), ("$", (1, 1)))
        self.assertIsNone(met_by(thing, "main", (1, 1, 2, 37, 37), 9, ("line", "main", 1)))
        self.assertIsNone(met_by(thing, "main", (1, 1, 1, 97, 98), 9, ("line", "main", 1)))

    def test_few_ticks(self):
        spot = ("way", "main", 0, False)
        self.assertEqual(met_by(ROUND, "main", (2, 4, 0, 32, 32), 400, spot), (2,))
        self.assertEqual(met_by(ROUND, "main", (2, 4, 0, 32, 32), 5, spot), (2,))
        self.assertIsNone(met_by(ROUND, "main", (2, 4, 0, 32, 32), 4, spot))
        self.assertIsNone(met_by(ROUND, "main", (2, 4, 0, 32, 32), 0, ("line", "main", 0)))
        body = (("while", ("less", N, num(2)), (("let", "n", ("add", N, num(1))),)), ("give", N))
        thing = ((), (function(body, (("n", "num"),), (), "num", "main"),))
        self.assertEqual(met_by(thing, "main", (0, 2, 0, 32, 32), 9, ("line", "main", 2)), (0,))
        self.assertEqual(met_by(thing, "main", (0, 2, 0, 32, 32), 5, ("line", "main", 2)), (1,))
        self.assertEqual(met_by(thing, "main", (0, 2, 0, 32, 32), 2, ("line", "main", 2)), (2,))
        self.assertIsNone(met_by(thing, "main", (0, 2, 0, 32, 32), 1, ("line", "main", 2)))

    def test_no_params(self):
        thing = ((), (function((("let", "i", num(1)),), (), (("i", "num"),), "num", "main"),))
        self.assertEqual(met_by(thing, "main", ROOM, 1, ("line", "main", 0)), ())
        self.assertIsNone(met_by(thing, "main", ROOM, 0, ("line", "main", 0)))


class Failing(unittest.TestCase):
    def test_each_why(self):
        self.assertEqual(failing(CALLS, "main", ROOM, 400), [
            ("low", 3, "one", (-1,)), ("low", 2, "range", (-2,)), ("main", 4, "range", (2,)),
            ("low", 0, "low", (-3,)), ("main", 3, "high", (3,))])

    def test_of_another_function(self):
        self.assertEqual(failing(CALLS, "low", ROOM, 400), [
            ("low", 3, "one", (-1,)), ("low", 2, "range", (-2,)), ("low", 0, "low", (-3,))])

    def test_none(self):
        self.assertEqual(failing(CALLS, "never", ROOM, 400), [])
        self.assertEqual(failing(CALLS, "main", (0, 1, 0, 32, 32), 400), [])
        self.assertEqual(failing(CALLS, "main", ROOM, 0), [])

    def test_few_ticks(self):
        self.assertEqual(failing(CALLS, "main", ROOM, 3), [("low", 0, "low", (-3,)), ("main", 3, "high", (3,))])
        self.assertEqual(failing(CALLS, "main", ROOM, 4), [("main", 4, "range", (2,)), ("low", 0, "low", (-3,)), ("main", 3, "high", (3,))])

    def test_like_word_at_other_lines(self):
        body = (("say", "bad", ("not", ("same", N, num(2)))), ("say", "bad", ("not", ("same", N, num(-2)))),
                ("say", "good", ("not", ("same", N, num(1)))))
        thing = ((), (function(body, (("n", "num"),), (), "num", "main"),))
        self.assertEqual(failing(thing, "main", ROOM, 9), [
            ("main", 2, "good", (1,)), ("main", 1, "bad", (-2,)), ("main", 0, "bad", (2,))])

    def test_told_anew(self):
        told = failing(CALLS, "main", ROOM, 400)
        self.assertIs(type(told), list)
        self.assertTrue(all(type(one) is tuple for one in told))
        kept = list(told)
        told.clear()
        self.assertEqual(failing(CALLS, "main", ROOM, 400), kept)


class Ends(unittest.TestCase):
    def test_dry(self):
        self.assertEqual(ends_all(ROUND, "main", ROOM, 400), (-1,))
        self.assertEqual(ends_all(ROUND, "main", (-9, -4, 0, 32, 32), 400), (-4,))
        self.assertIsNone(ends_all(ROUND, "main", (0, 9, 0, 32, 32), 400))

    def test_ticks_at_the_edge(self):
        for ticks, wanted in ((0, (0,)), (1, (0,)), (2, (1,)), (3, (1,)), (4, (2,)), (6, (3,)), (19, (9,)), (20, None), (400, None)):
            self.assertEqual(ends_all(ROUND, "main", (0, 9, 0, 32, 32), ticks), wanted, ticks)

    def test_a_body_that_is_void(self):
        thing = ((), (function((), (("n", "num"),), (), "num", "main"),))
        self.assertIsNone(ends_all(thing, "main", ROOM, 0))

    def test_fails_is_no_dry(self):
        self.assertIsNone(ends_all(CALLS, "main", ROOM, 400))
        self.assertEqual(ends_all(CALLS, "main", ROOM, 2), (0,))

    def test_without_end(self):
        thing = ((), (function((("call", "n", "main", (N,)),), (("n", "num"),), (), "num", "main"),))
        self.assertEqual(ends_all(thing, "main", ROOM, 400), (0,))


class Many(unittest.TestCase):
    """Over made programs, by the runs of all inputs one by one."""

    PARTS = {"num": ("n",), "text": ("t",), "row": ("r",)}

    def test_many(self):
        met, failed, dry = 0, 0, 0
        for seed in range(60):
            maker = Maker(seed)
            records, functions = maker.program()
            # A first function of few params, so that rooms stay small.
            head = ("top", (("n", "num"), ("r", "row")), (("t", "text"), ("s", "sheet"), ("v", functions[0][3])), "num",
                    (("call", "v", "one", (N, T, R, ("var", "s"))), ("give", ("at", R, N))))
            thing = (records, functions + (head,))
            right_program(thing)
            room = (-1, 1, maker.random.randint(0, 2), 97, 97)
            ticks = maker.random.choice((0, 3, 9, 40))
            before = copy.deepcopy((thing, room))
            runs = [(given, run(thing, "top", given, ticks)) for given in inputs(thing, "top", room)]
            self.assertLessEqual(how_many(thing, "top", room), 400)
            for spot in spots_of(thing):
                wanted = [given for given, told in runs if spot in told[1]]
                told = met_by(thing, "top", room, ticks, spot)
                self.assertEqual(told, wanted[0] if wanted else None)
                met += told is not None
            whys = []
            for given, (end, _) in runs:
                if end[0] == "fails" and end not in [why for why, _ in whys]:
                    whys.append((end, given))
            self.assertEqual(failing(thing, "top", room, ticks), [end[1:] + (given,) for end, given in whys])
            wanted = [given for given, told in runs if told[0] == ("dry",)]
            self.assertEqual(ends_all(thing, "top", room, ticks), wanted[0] if wanted else None)
            self.assertEqual((thing, room), before)
            failed += len(whys)
            dry += len(wanted) > 0
        self.assertGreater(met, 200)
        self.assertGreater(failed, 30)
        self.assertGreater(dry, 10)


if __name__ == "__main__":
    unittest.main()
