"""A desk (point 75)."""

import unittest

from everyfork.desk import Desk
from everyfork.errors import ForkError, NoEnd, NoNever, NoProgram, NoRow, NoText
from everyfork.finding import failing
from everyfork.keeping import Keeper
from everyfork.texts import shown
from tests.samples import THINGS, WHOLE
from tests.walked import made

ROWS = [
    "function f num x num",
    "local r num",
    "if less var x 0",
    "let r 1",
    "else",
    "say small less var x 3",
    "end",
    "call r g 1 var x",
    "give var r",
    "end",
    "function g num y num",
    "if less 9 var y",
    "give 7",
    "else",
    "end",
    "give at rows 3 5 6 7 var y",
    "end",
]
PROGRAM = made("\n".join(ROWS))
KEEP = "keep f -2 3 0 97 97 20"
RECORD_ROWS = [
    "record pair a num b text",
    "record two one pair q row",
    "function f two p two n num t text r row",
    "let p with one var p with a of one var p add var n len var t",
    "give with q var p more var r len of q var p",
    "end",
    "function none text",
    "give text 3 32 126 36",
    "end",
    "function void row",
    "end",
]


def said(*rows):
    """A row of lines."""
    return "\n".join(rows)


class Desks(unittest.TestCase):
    def setUp(self):
        self.desk = Desk()

    def answers(self, row, wanted):
        told = self.desk.say(row)
        self.assertIs(type(told), str)
        self.assertEqual(told, wanted, row)

    def state(self):
        """All that a desk tells of what it has."""
        told = []
        for row in ("show", "failing", "answer line f 0", "answer way f 0 yes", "answer line g 1", "run f 20 2", "run none 5"):
            try:
                told.append(self.desk.say(row))
            except NoRow:
                told.append(None)
        return told

    def refused(self, kind, row, *fields):
        """A row that is refused, after which all is as it was."""
        before = self.state()
        with self.assertRaises(kind, msg=row) as caught:
            self.desk.say(row)
        self.assertIsInstance(caught.exception, ForkError)
        for other in (NoText, NoProgram, NoEnd, NoNever, NoRow):
            self.assertIs(isinstance(caught.exception, other), other is kind)
        if kind is NoText:
            self.assertEqual((caught.exception.row,), fields, row)
        if kind is NoProgram:
            self.assertEqual((caught.exception.function, caught.exception.line), fields, row)
        if kind is NoEnd:
            self.assertEqual((caught.exception.given,), fields, row)
        self.assertEqual(self.state(), before)


class Programs(Desks):
    def test_program_and_show(self):
        self.answers(said("program", *ROWS), "ok")
        self.answers("show", said(*ROWS))
        self.answers(said("program", *RECORD_ROWS), "ok")
        self.answers("show", said(*RECORD_ROWS))
        self.answers(said("program", *shown(WHOLE)), "ok")
        self.answers("show", said(*shown(WHOLE)))
        self.answers(said("program", "function f num", "end"), "ok")
        self.answers("show", "function f num\nend")

    def test_no_text(self):
        for ahead in (False, True):
            for row, number in (("program", 0), ("program\n", 0), ("program\nend", 0), ("program\nfunction f num", 1), ("program\nfunction f num\nend\n", 2),
                                ("program\nfunction f num\nlet x  1\nend", 1), ("program\nfunction f num\nlet x 1\nend\nmore", 3), ("program\n\nfunction f num\nend", 0),
                                (said("program", *ROWS[:-1]), 16), (said("program", *ROWS, "show"), 17)):
                self.refused(NoText, row, number)
            self.answers(said("program", *ROWS), "ok")
            self.answers(KEEP, "12 met 2 never")

    def test_no_program(self):
        for ahead in (False, True):
            self.refused(NoProgram, "program\nfunction f num\nlet x 1\nend", 0, 0)
            self.refused(NoProgram, "program\nrecord point x num x num\nfunction f num\nend", -1, -1)
            self.refused(NoProgram, "program\nfunction f num\nend\nfunction f num\nend", 1, -1)
            self.refused(NoProgram, "program\nfunction f num x num\nlet x 1\nlet x var y\nend", 0, 1)
            # No text goes ahead of no program.
            self.refused(NoText, "program\nfunction f num\nlet x 1\nend\nend", 3)
            self.answers(said("program", *ROWS), "ok")
            self.answers(KEEP, "12 met 2 never")

    def test_a_keeper_goes(self):
        self.answers(said("program", *ROWS), "ok")
        self.answers(KEEP, "12 met 2 never")
        self.answers("answer line f 0", "met 0")
        self.answers(said("program", *ROWS), "ok")
        for row in ("answer line f 0", "failing", said("change", *ROWS[10:])):
            self.refused(NoRow, row)


class Runs(Desks):
    def test_back_fails_dry(self):
        self.answers(said("program", *ROWS), "ok")
        self.answers("run f 20 2", "back 7")
        self.answers("run f 20 0", "back 5")
        self.answers("run f 20 3", "fails f 2 small")
        self.answers("run f 20 -1", "fails g 2 range")
        self.answers("run g 2 10", "back 7")
        self.answers("run g 1 10", "dry")
        self.answers("run g 0 10", "dry")
        self.answers("run f 400 2", "back 7")
        great = "9" * 60
        self.answers("run g 5 " + great, "back 7")
        self.answers("run g 5 -" + great, "fails g 2 range")

    def test_values(self):
        self.answers(said("program", *RECORD_ROWS), "ok")
        self.answers("run none 5", "back 3 32 126 36")
        self.answers("run void 5", "back 0")
        self.answers("run f 5 1 0 0 4 0 0", "back 4 0 1 0")
        self.answers("run f 5 1 2 97 98 3 10 -20 30 -4 1 32 4 1 2 3 4", "back -3 2 97 98 5 1 2 3 4 3")
        sixty = " ".join(["60"] + ["126"] * 60)
        rows = " ".join(["60"] + ["-" + "8" * 60] * 60)
        self.answers(f"run f 5 7 {sixty} {rows} {'1' * 60} {sixty} {rows}", f"back {int('1' * 60) + 60} {sixty} 61 {rows[3:]} 60")

    def test_great_numbers(self):
        self.answers(said("program", "function f num x num", "local i num", "while less var i 150", "let x times 1000000 var x", "let i add 1 var i", "end", "give var x", "end"), "ok")
        self.refused(NoRow, "run f 500 7")
        self.answers("run f 400 7", "dry")
        self.answers(said("program", "function f num x num", "local i num", "while less var i 130", "let x times 1000000 times 1000000 times 1000000 times 1000000 times 1000000 var x",
                          "let i add 1 var i", "end", "give var x", "end"), "ok")
        self.answers("run f 400 7", "back 7" + "0" * 3900)

    def test_no_row(self):
        self.answers(said("program", *RECORD_ROWS), "ok")
        right = "run f 5 1 0 0 4 0 0"
        self.answers(right, "back 4 0 1 0")
        for row in ("run", "run f", "run f 5", "run f 5 1 0 0 4 0", right + " 0", right + " ", " " + right, right.replace(" ", "  "), "run  f 5 1 0 0 4 0 0", right + "\n", right + "\nx",
                    "run g 5", "run F 5 1 0 0 4 0 0", "run num 5", "run f -1 1 0 0 4 0 0", "run f 401 1 0 0 4 0 0", "run f 05 1 0 0 4 0 0", "run f +5 1 0 0 4 0 0", "run f x 1 0 0 4 0 0",
                    "run f  1 0 0 4 0 0", "run f 5 01 0 0 4 0 0", "run f 5 -0 0 0 4 0 0", "run f 5 - 0 0 4 0 0", "run f 5 +1 0 0 4 0 0", "run f 5 1.0 0 0 4 0 0", "run f 5 1_0 0 0 4 0 0",
                    "run f 5 x 0 0 4 0 0", "run f 5 1 61 0 4 0 0", "run f 5 1 -1 0 4 0 0", "run f 5 1 00 0 4 0 0", "run f 5 1 1 37 0 4 0 0", "run f 5 1 1 31 0 4 0 0", "run f 5 1 1 127 0 4 0 0",
                    "run f 5 1 1 -40 0 4 0 0", "run f 5 1 1 040 0 4 0 0", "run f 5 1 1 a 0 4 0 0", "run f 5 1 0 1 4 0 0", "run f 5 1 0 1 4 0 1 0", "run f 5 1 0 1 x 4 0 0",
                    "run f " + "9" * 5000 + " 1 0 0 4 0 0", "run f 5 1 " + "9" * 5000, "run none 5 ", "run none 5 0", "RUN none 5", "runs none 5",
                    "run f 5 1 61 " + "97 " * 61 + "0 4 0 0", "run f 5 1 0 61 " + "97 " * 61 + "4 0 0"):
            self.refused(NoRow, row)
        self.answers("run f 0 1 0 0 4 0 0", "dry")


class Keepers(Desks):
    def setUp(self):
        super().setUp()
        self.answers(said("program", *ROWS), "ok")

    def test_keep_and_answer(self):
        self.answers(KEEP, "12 met 2 never")
        keeper = Keeper(PROGRAM, "f", (-2, 3, 0, 97, 97), 20)
        for spot, answer in keeper.answers().items():
            words = [spot[0], spot[1], str(spot[2])]
            if spot[0] == "way":
                words.append({True: "yes", False: "no"}[spot[3]])
            elif spot[0] == "breaks":
                words.append(spot[3])
            self.answers("answer " + " ".join(words), f"met {answer[1][0]}" if answer[0] == "met" else "never")
        self.answers("answer way f 0 yes", "met -1")
        self.answers("answer breaks f 2 small", "met 3")
        self.answers("answer breaks g 2 range", "met -1")
        self.answers("answer line g 1", "never")

    def test_another_keeper(self):
        self.answers(KEEP, "12 met 2 never")
        self.answers("keep f 0 0 3 32 126 20", "8 met 6 never")
        self.answers("answer way f 0 yes", "never")
        self.answers("keep g -1 -1 0 97 97 400", "4 met 10 never")
        self.answers("answer line f 0", "never")
        self.answers("answer line g 0", "met -1")
        self.answers("failing", "g 2 range -1")

    def test_no_end(self):
        self.refused(NoEnd, "keep f -2 3 0 97 97 0", (0,))
        self.refused(NoEnd, "keep f -2 3 0 97 97 4", (0,))
        self.answers(KEEP, "12 met 2 never")
        self.refused(NoEnd, "keep f 1 2 0 97 97 4", (1,))
        self.answers("answer way f 0 yes", "met -1")

    def test_no_row(self):
        for ahead in (False, True):
            for row in ("keep", "keep f", "keep f -2 3 0 97 97", KEEP + " 1", KEEP + " ", KEEP + "\n", "keep h -2 3 0 97 97 20", "keep f -10 3 0 97 97 20", "keep f -2 10 0 97 97 20",
                        "keep f 3 2 0 97 97 20", "keep f -2 3 4 97 97 20", "keep f -2 3 -1 97 97 20", "keep f -2 3 0 31 97 20", "keep f -2 3 0 97 127 20", "keep f -2 3 0 98 97 20",
                        "keep f -2 3 0 97 97 -1", "keep f -2 3 0 97 97 401", "keep f -02 3 0 97 97 20", "keep f -2 3 0 97 97 020", "keep f -2 3 00 97 97 20", "keep f x 3 0 97 97 20",
                        "keep f -2  3 0 97 97 20", "keep f -2 3 0 97 97 " + "1" * 5000, "keep f -2 3 0 " + "1" * 5000 + " 97 20"):
                self.refused(NoRow, row)
            self.answers(KEEP, "12 met 2 never")
        for row in ("answer", "answer line", "answer line f", "answer line f 5", "answer line f 00", "answer line f -0", "answer line f 0 ", "answer  line f 0", "answer line h 0",
                    "answer line f 0 0", "answer line f 0\n", "answer way f 0", "answer way f 0 True", "answer way f 0 maybe", "answer way f 1 yes", "answer breaks f 2", "answer breaks f 2 range",
                    "answer breaks f 2 small more", "answer spot f 0", "answer rounds f 0 0", "failing f", "failing ", "failing\n", "show ", "show f", "show\n", " show", "", " ", "\n",
                    "program f", "program \nfunction f num\nend", "change f", "change \n" + said(*ROWS[10:]), "Program", "shows", "say", "answers", "line f 0", "ok"):
            self.refused(NoRow, row)

    def test_failing(self):
        self.answers(KEEP, "12 met 2 never")
        self.assertEqual(failing(PROGRAM, "f", (-2, 3, 0, 97, 97), 20), [("g", 2, "range", (-1,)), ("f", 2, "small", (3,))])
        self.answers("failing", "g 2 range -1, f 2 small 3")
        self.answers("keep f 0 1 0 97 97 20", "8 met 6 never")
        self.answers("failing", "none")

    def test_failing_and_answers_with_other_params(self):
        self.answers(said("program", "function f num t text q row", "give at var q len var t", "end", "function none num", "say no less 1 0", "end"), "ok")
        self.answers("keep f 1 1 1 97 97 5", "2 met 2 never")
        self.answers("failing", "f 0 range 0 0")
        self.answers("answer breaks f 0 range", "met 0 0")
        self.answers("keep f 1 1 1 98 98 5", "2 met 2 never")
        self.answers("keep none 1 1 1 98 98 5", "2 met 2 never")
        self.answers("failing", "none 0 no")
        self.answers("answer line none 0", "met")
        self.answers("answer line f 0", "never")


class Changes(Desks):
    G = ["function g num y num", "if less 1 var y", "give 7", "else", "end", "give at rows 3 5 6 7 var y", "end"]

    def setUp(self):
        super().setUp()
        self.answers(said("program", *ROWS), "ok")
        self.answers(KEEP, "12 met 2 never")

    def test_nothing_sought(self):
        self.answers(said("change", *ROWS[10:]), "none")
        self.answers("show", said(*ROWS))

    def test_sought_anew(self):
        keeper = Keeper(PROGRAM, "f", (-2, 3, 0, 97, 97), 20)
        wanted = keeper.change(made(said(*self.G))[1][0])
        self.assertIn(("way", "g", 0, True), wanted)
        told = self.desk.say(said("change", *self.G))
        self.assertIn("way g 0 yes", told.split(", "))
        self.assertEqual(told, ", ".join(" ".join(["yes" if one is True else "no" if one is False else str(one) for one in spot]) for spot in wanted))
        self.answers("show", said(*ROWS[:10], *self.G))
        self.answers("answer way g 0 yes", "met 2")
        self.answers("answer line g 1", "met 2")
        self.answers("run g 5 5", "back 7")
        self.answers("failing", "g 2 range -1, f 2 small 3")
        # The keeper of the program of now.
        self.answers("keep f -2 3 0 97 97 20", "14 met 0 never")

    def test_a_function_more(self):
        self.answers("change\nfunction h num\nlocal q row\nwhile less 0 1\nend\nsay no less 0 1\ngive at var q 0\nend",
                     "line h 0, way h 0 yes, way h 0 no, line h 1, breaks h 1 no, line h 2, breaks h 2 range")
        self.answers("show", said(*ROWS, "function h num", "local q row", "while less 0 1", "end", "say no less 0 1", "give at var q 0", "end"))
        self.answers("answer breaks h 2 range", "never")

    def test_other_params(self):
        told = self.desk.say(said("change", "function f num x row", "give len var x", "end"))
        self.assertEqual(told, "line f 0, line g 0, way g 0 yes, way g 0 no, line g 1, line g 2, breaks g 2 range")
        self.answers("answer line f 0", "met 0")
        self.answers("run f 3 2 5 5", "back 2")
        self.refused(NoRow, "run f 3 2")

    def test_refused(self):
        right = said("change", *self.G)
        self.refused(NoText, "change", 0)
        self.refused(NoText, "change\n", 0)
        self.refused(NoText, said("change", *self.G[:-1]), 6)
        self.refused(NoText, right + "\n", 7)
        self.refused(NoText, said("change", *self.G, "function h num"), 8)
        self.refused(NoText, said("change", "record point x num", *self.G[:-1]), 7)
        self.refused(NoRow, said("change", "record point x num", *self.G))
        self.refused(NoRow, said("change", *self.G, "function h num", "end"))
        self.refused(NoRow, said("change x", *self.G))
        self.refused(NoProgram, said("change", "function g num y num", "give var z", "end"), 1, 0)
        self.refused(NoProgram, said("change", "function g num", "end"), 0, 3)
        self.refused(NoProgram, said("change", "function h num", "let h 1", "end"), 2, 0)
        self.refused(NoProgram, said("change", "function h none", "end"), 2, -1)
        self.refused(NoEnd, said("change", "function g num y num", "while less var y 0", "end", "end"), (-1,))
        self.refused(NoProgram, said("change", "function g num y num", "while less var y 0", "end", "give var z", "end"), 1, 1)

    def test_two_desks(self):
        other = Desk()
        before = self.state()
        self.assertEqual(other.say(said("program", *RECORD_ROWS)), "ok")
        self.assertEqual(other.say("keep none 0 0 0 97 97 5"), "1 met 2 never")
        self.assertEqual(self.state(), before)
        self.answers(said("change", *self.G), self.desk_told())
        self.assertEqual(other.say("show"), said(*RECORD_ROWS))
        self.assertRaises(NoRow, Desk().say, "show")

    def desk_told(self):
        """What a change to G is answered by, told by another desk."""
        desk = Desk()
        desk.say(said("program", *ROWS))
        desk.say(KEEP)
        return desk.say(said("change", *self.G))


class Nothing(Desks):
    def test_no_program_and_no_keeper(self):
        for row in ("show", "run f 20 2", "run", KEEP, "answer line f 0", "failing", said("change", *ROWS[10:]), "change", "change\nnothing"):
            self.refused(NoRow, row)
        self.answers(said("program", *ROWS), "ok")
        # A keeper that there isn't is asked for ahead of the lines.
        for row in ("answer line f 0", "failing", said("change", *ROWS[10:]), "change", "change\nnothing", "change\nrecord point x num\nfunction f num\nend"):
            self.refused(NoRow, row)

    def test_no_texts(self):
        for ahead in (False, True):
            for thing in THINGS + (("show",), ["show"], ("run", "f"), "sh\tow", "show\r", "show%", "answer line f\x000", "program\nfunction f num\r\nend", "sh\u00f6w"):
                if not isinstance(thing, str) or len(thing) > 1:
                    self.refused(NoRow, thing)
            self.answers(said("program", *ROWS), "ok")
            self.answers(KEEP, "12 met 2 never")


if __name__ == "__main__":
    unittest.main()
