"""A keeper (points 73 and 74)."""

import copy
import random
import unittest

from everyfork.checker import lets_by
from everyfork.errors import ForkError, NoEnd, NoNever, NoProgram, NoRow, NoText
from everyfork.finding import ends_all, met_by
from everyfork.keeping import Keeper
from everyfork.programs import function_of, right_program, spots_of
from everyfork.rooms import in_room, inputs
from everyfork.running import run
from tests.samples import THINGS, Maker
from tests.walked import bent, input_holds, made

PROGRAM = made("""
    function f num x num
    local r num
    if less var x 0
        let r 1
    else
        if less 5 var x
            let r 2
        else
        end
    end
    call r g 1 var x
    say small less var r 4
    give var r
    end
    function g num y num
    if less 9 var y
        give 7
    else
    end
    give div 2 var y
    end
    function lone num
    give 0
    end
""")
ROOM = (-2, 3, 0, 97, 97)


G_SAME = ("g", (("y", "num"),), (("z", "num"),), "num", PROGRAM[1][1][4])
F_MORE = PROGRAM[1][0][:4] + (PROGRAM[1][0][4] + (("let", "r", ("num", 3)),),)


class Kept(unittest.TestCase):
    def look(self, keeper, f, room, ticks):
        """All answers are as point 73 tells, the least inputs aside; the program's order."""
        program = keeper.program_now()
        answers = keeper.answers()
        self.assertIs(type(answers), dict)
        self.assertEqual(list(answers), spots_of(program))
        for spot, answer in answers.items():
            self.assertIs(type(answer), tuple)
            if answer[0] == "met":
                self.assertTrue(in_room(program, f, room, answer[1]))
                self.assertIn(spot, run(program, f, answer[1], ticks)[1])
            else:
                self.assertEqual(answer[0], "never")
                self.assertIn(spot, answer[1][2])
                self.assertEqual(answer[1][0], f)
        papers = []
        for answer in answers.values():
            if answer[0] == "never" and answer[1] not in papers:
                papers.append(answer[1])
        for paper in papers:
            self.assertTrue(lets_by(program, paper))
            for values in inputs(program, f, room):
                self.assertTrue(input_holds(program, f, paper[1], values))
        return answers

    def look_first(self, program, f, room, ticks):
        """A new keeper; each answer to be met is the least input."""
        keeper = Keeper(program, f, room, ticks)
        self.assertEqual(keeper.program_now(), program)
        for spot, answer in self.look(keeper, f, room, ticks).items():
            found = met_by(program, f, room, ticks, spot)
            self.assertEqual(answer[0], "never" if found is None else "met")
            self.assertEqual(answer[1] if found is not None else None, found)
        return keeper

    def look_change(self, keeper, f, room, ticks, function):
        """A change, and by what ahead of it was which answers have to stay and which are sought anew."""
        ahead, before = keeper.answers(), keeper.program_now()
        names = [one[0] for one in before[1]]
        functions = list(before[1])
        if function[0] in names:
            functions[names.index(function[0])] = function
        else:
            functions.append(function)
        program = (before[0], tuple(functions))
        told = keeper.change(function)
        self.assertIs(type(told), list)
        self.assertEqual(keeper.program_now(), program)
        now = self.look(keeper, f, room, ticks)
        alike = function_of(before, f)[1] == function_of(program, f)[1]
        anew = []
        for spot in spots_of(program):
            answer = ahead.get(spot)
            if answer is None:
                stays = False
            elif answer[0] == "met":
                stays = in_room(program, f, room, answer[1]) and spot in run(program, f, answer[1], ticks)[1]
            else:
                stays = alike and lets_by(program, answer[1])
            if stays:
                self.assertEqual(now[spot], answer)
            else:
                anew.append(spot)
                found = met_by(program, f, room, ticks, spot)
                self.assertEqual(now[spot][:1] + ((now[spot][1],) if found else ()), ("met", found) if found else ("never",))
        self.assertEqual(told, anew)
        told.clear()
        return anew


class Answers(Kept):
    def test_each_spot(self):
        keeper = self.look_first(PROGRAM, "f", ROOM, 20)
        answers = keeper.answers()
        self.assertEqual(answers[("way", "f", 0, True)], ("met", (-1,)))
        self.assertEqual(answers[("line", "f", 0)], ("met", (0,)))
        self.assertEqual(answers[("line", "f", 3)][0], "never")
        self.assertEqual([spot for spot in answers if answers[spot][0] == "never"], [
            ("way", "f", 2, True), ("line", "f", 3), ("breaks", "f", 5, "small"), ("way", "g", 0, True), ("line", "g", 1), ("line", "lone", 0)])

    def test_other_functions_and_rooms(self):
        self.look_first(PROGRAM, "g", ROOM, 20)
        self.look_first(PROGRAM, "lone", ROOM, 1)
        self.look_first(PROGRAM, "f", (-9, 9, 3, 32, 126), 20)
        self.look_first(made("function f num\nend"), "f", ROOM, 0)

    def test_what_is_told_is_the_askers(self):
        keeper = Keeper(PROGRAM, "f", ROOM, 20)
        wanted = keeper.answers()
        answers = keeper.answers()
        answers.clear()
        self.assertEqual(keeper.answers(), wanted)
        answers = keeper.answers()
        for spot in answers:
            answers[spot] = None
        self.assertEqual(keeper.answers(), wanted)
        self.assertEqual(keeper.change(G_SAME), [])
        self.assertEqual(keeper.answers(), wanted)

    def test_no_program(self):
        for thing in THINGS + (PROGRAM[:1], list(PROGRAM), ((), PROGRAM[1] * 3), ((), PROGRAM[1][:1])):
            with self.assertRaises(NoProgram) as wanted:
                right_program(thing)
            with self.assertRaises(NoProgram) as caught:
                Keeper(thing, "f", ROOM, 20)
            self.assertEqual((caught.exception.function, caught.exception.line), (wanted.exception.function, wanted.exception.line))

    def test_no_end(self):
        program = made("function f num x num\nwhile less 1 var x\nend\nend")
        for room, given in (((-2, 3, 0, 97, 97), (2,)), ((3, 5, 0, 97, 97), (3,)), ((1, 2, 0, 97, 97), (2,))):
            with self.assertRaises(NoEnd) as caught:
                Keeper(program, "f", room, 400)
            self.assertEqual(caught.exception.given, given)
        with self.assertRaises(NoEnd) as caught:
            Keeper(PROGRAM, "f", ROOM, 3)
        self.assertEqual(caught.exception.given, (0,))
        for other in (NoText, NoProgram, NoNever, NoRow):
            self.assertNotIsInstance(caught.exception, other)
        self.assertIsInstance(caught.exception, ForkError)

    def test_two_keepers(self):
        one, two = Keeper(PROGRAM, "f", ROOM, 20), Keeper(PROGRAM, "f", ROOM, 20)
        wanted = two.answers()
        one.change(("g", (("y", "num"),), (), "num", ()))
        self.assertEqual(two.answers(), wanted)
        self.assertEqual(two.program_now(), PROGRAM)
        self.assertNotEqual(one.answers(), wanted)


class Changes(Kept):
    def setUp(self):
        self.keeper = self.look_first(PROGRAM, "f", ROOM, 20)

    def change(self, function):
        return self.look_change(self.keeper, "f", ROOM, 20, function)

    def test_all_stays(self):
        ahead = self.keeper.answers()
        self.assertEqual(self.change(PROGRAM[1][1]), [])
        self.assertEqual(self.change(G_SAME), [])
        self.assertEqual(self.keeper.answers(), ahead)

    def test_a_function_more(self):
        more = ("more", (), (), "num", (("give", ("num", 1)),))
        self.assertEqual(self.change(more), [("line", "more", 0)])
        self.assertEqual(self.keeper.answers()[("line", "more", 0)][0], "never")
        self.assertEqual([one[0] for one in self.keeper.program_now()[1]], ["f", "g", "lone", "more"])

    def test_an_input_that_is_the_least_no_longer(self):
        g = ("g", (("y", "num"),), (), "num", (("if", ("less", ("num", 1), ("var", "y")), (("give", ("num", 7)),), ()), ("give", ("num", 0))))
        self.change(g)
        self.assertEqual(self.keeper.answers()[("way", "g", 0, True)], ("met", (2,)))
        g = g[:4] + ((("if", ("less", ("num", 0), ("var", "y")), (("give", ("num", 7)),), ()), ("give", ("num", 0))),)
        self.assertNotIn(("way", "g", 0, True), self.change(g))
        self.assertEqual(self.keeper.answers()[("way", "g", 0, True)], ("met", (2,)))

    def test_a_way_that_is_gone_now(self):
        g = PROGRAM[1][1][:4] + ((("if", ("less", ("num", 2), ("var", "y")), (("give", ("num", 7)),), ()), ("give", ("div", ("var", "y"), 2))),)
        told = self.change(g)
        for spot, given in ((("way", "g", 0, True), (3,)), (("line", "g", 1), (3,)), (("breaks", "f", 5, "small"), (3,))):
            self.assertIn(spot, told)
            self.assertEqual(self.keeper.answers()[spot], ("met", given))
        # And back: what was met is not any more.
        told = self.change(PROGRAM[1][1])
        for spot in (("breaks", "f", 5, "small"), ("way", "g", 0, True), ("line", "g", 1)):
            self.assertIn(spot, told)
            self.assertEqual(self.keeper.answers()[spot][0], "never")

    def test_spots_that_go_and_come(self):
        self.change(("g", (("y", "num"),), (), "num", ()))
        self.assertEqual([spot for spot in self.keeper.answers() if spot[1] == "g"], [])
        told = self.change(PROGRAM[1][1])
        self.assertEqual([spot for spot in told if spot[1] == "g"], [spot for spot in spots_of(PROGRAM) if spot[1] == "g"])

    def test_the_function_itself(self):
        self.assertIn(("line", "f", 7), self.change(F_MORE))
        f = PROGRAM[1][0][:4] + ((("if", ("less", ("var", "x"), ("num", 0)), (("let", "r", ("num", 1)),), ()),),)
        self.change(f)

    def test_other_params(self):
        f = PROGRAM[1][0]
        for params in ((("x", "num"), ("y", "num")), (("x", "num"), ("q", "row"))):
            self.assertEqual(len(self.change(f[:1] + (params,) + f[2:])), len(self.keeper.answers()))
            self.change(f)
        # Another name alone: the inputs hold, papers don't.
        body = eval(repr(f[4]).replace("'x'", "'z'"))
        told = self.change(("f", (("z", "num"),)) + f[2:4] + (body,))
        self.assertEqual(told, [spot for spot in spots_of(PROGRAM) if self.keeper.answers()[spot][0] == "never"])

    def test_params_that_make_inputs_no_more(self):
        g = ("g", (("y", "text"),), (), "num", (("give", ("len", ("var", "y"))),))
        with self.assertRaises(NoProgram):
            self.keeper.change(g)
        keeper = self.look_first(made("function f num x num\ngive var x\nend"), "f", (0, 1, 1, 97, 97), 5)
        self.assertEqual(self.look_change(keeper, "f", (0, 1, 1, 97, 97), 5, ("f", (("x", "text"),), (), "text", (("give", ("var", "x")),))), [("line", "f", 0)])
        self.assertEqual(keeper.answers(), {("line", "f", 0): ("met", ("",))})

    def test_refused(self):
        ahead, before = self.keeper.answers(), copy.deepcopy(self.keeper.program_now())
        things = THINGS + (("g",), ("g", (), (), "num"), list(PROGRAM[1][1]), ("g", (("y", "num"),), (), "num", [()]), ("g", (("y", "num"),), (), "num", (("give", ("var", "z")),)),
                           ("other", (), (), "num", (("give", ("text", "")),)), ("f", (), (), "num", (("call", "x", "g", ()),)), (["g"], 1), ((), ()), ("lone", (), (), "kind", ()))
        for thing in things:
            functions = list(PROGRAM[1])
            names = [one[0] for one in functions]
            if isinstance(thing, tuple) and len(thing) > 0 and thing[0] in names:
                functions[names.index(thing[0])] = thing
            else:
                functions.append(thing)
            with self.assertRaises(NoProgram) as wanted:
                right_program(((), tuple(functions)))
            with self.assertRaises(NoProgram) as caught:
                self.keeper.change(thing)
            self.assertEqual((caught.exception.function, caught.exception.line), (wanted.exception.function, wanted.exception.line), thing)
            self.assertEqual((self.keeper.answers(), self.keeper.program_now()), (ahead, before))

    def test_no_end(self):
        ahead, before = self.keeper.answers(), self.keeper.program_now()
        g = ("g", (("y", "num"),), (), "num", (("while", ("less", ("num", 1), ("var", "y")), ()),))
        with self.assertRaises(NoEnd) as caught:
            self.keeper.change(g)
        self.assertEqual(caught.exception.given, (2,))
        self.assertEqual((self.keeper.answers(), self.keeper.program_now()), (ahead, before))
        # A program that is not right is refused for that.
        with self.assertRaises(NoProgram):
            self.keeper.change(g[:4] + (g[4] + (("give", ("var", "z")),),))
        # A function that f does not come to may go on for ever.
        self.assertEqual(self.change(("lone", (), (), "num", (("while", ("less", ("num", 0), ("num", 1)), ()),))),
                         [("way", "lone", 0, True), ("way", "lone", 0, False)])

    def test_seven_functions(self):
        for name in ("one", "two", "three"):
            self.change((name, (), (), "num", ()))
        with self.assertRaises(NoProgram) as caught:
            self.keeper.change(("four", (), (), "num", ()))
        self.assertEqual((caught.exception.function, caught.exception.line), (-1, -1))
        self.assertEqual(len(self.keeper.program_now()[1]), 6)


class ManyChanges(Kept):
    def test_bent_functions(self):
        maker = random.Random(74)
        others = (0, 1, 3, ("num", 0), ("var", "x"), ("var", "y"), ("var", "r"), "x", "y", "r", "less", "same", "add", "sub", (), ("give", ("num", 2)))
        keeper = self.look_first(PROGRAM, "f", ROOM, 25)
        counts = {"right": 0, "dry": 0, "wrong": 0}
        while counts["right"] < 60:
            function = bent(maker, maker.choice(keeper.program_now()[1] + PROGRAM[1]), others)
            ahead = (keeper.answers(), keeper.program_now())
            try:
                Keeper(ahead[1], "f", ROOM, 25).change(function)
            except (NoProgram, NoEnd) as e:
                counts["wrong" if isinstance(e, NoProgram) else "dry"] += 1
                self.assertRaises(e.__class__, keeper.change, function)
                self.assertEqual((keeper.answers(), keeper.program_now()), ahead)
                continue
            self.look_change(keeper, "f", ROOM, 25, function)
            counts["right"] += 1
        self.assertGreater(counts["wrong"], 20)

    def test_many_programs(self):
        done = 0
        for seed in range(100, 130):
            program, other = Maker(seed).program(), Maker(seed + 1000).program()
            room = ((0, 0, 0, 97, 97), (0, 1, 0, 97, 97), (0, 0, 1, 97, 97))[seed % 3]
            if ends_all(program, "one", room, 60) is not None:
                self.assertRaises(NoEnd, Keeper, program, "one", room, 60)
                continue
            keeper = self.look_first(program, "one", room, 60)
            try:
                self.look_change(keeper, "one", room, 60, other[1][1])
            except (NoProgram, NoEnd):
                self.assertEqual(keeper.program_now(), program)
            else:
                done += 1
        self.assertGreater(done, 3)


if __name__ == "__main__":
    unittest.main()
