"""Papers for a room (point 70), and what comes of them over many programs (point 5)."""

import copy
import unittest

from everyfork.checker import lets_by
from everyfork.errors import ForkError, NoEnd, NoNever, NoProgram, NoRow, NoText
from everyfork.going import never
from everyfork.programs import function_of, spots_of
from everyfork.rooms import how_many, in_room, inputs
from everyfork.running import run
from tests.samples import Maker
from tests.walked import broken_claims, input_holds, made, some_inputs

SMALL = (-2, 2, 2, 97, 98)


def beyond(program, kind, room, value):
    """Values of a kind like one in a room, but one part just beyond it, on each side."""
    least, most, long, low, high = room
    if kind == "num":
        return [least - 1, most + 1]
    if kind == "row":
        longer = value + (least,) * (long + 1 - len(value))
        return [longer] + [value[:k] + (number,) + value[k + 1:] for k in range(len(value)) for number in (least - 1, most + 1)]
    if kind == "text":
        signs = [chr(number) for number in (low - 1, high + 1) if 32 <= number <= 126 and number != 37]
        return [value + "z" * (long + 1 - len(value))] + [value[:k] + sign + value[k + 1:] for k in range(len(value)) for sign in signs]
    told = []
    for k, (_, inner) in enumerate(dict(program[0])[kind]):
        told += [value[:k] + (one,) + value[k + 1:] for one in beyond(program, inner, room, value[k])]
    return told


def beyond_all(program, f, room, values):
    """Inputs like one, but one part of one param just beyond a room."""
    kinds = [kind for _, kind in function_of(program, f)[1]]
    return [values[:k] + (one,) + values[k + 1:] for k, kind in enumerate(kinds) for one in beyond(program, kind, room, values[k])]


def met_spots(program, f, room, ticks):
    """All spots that runs of a room's inputs meet."""
    told = {}
    for values in inputs(program, f, room):
        for spot in run(program, f, values, ticks)[1]:
            told.setdefault(spot, values)
    return told


class Going(unittest.TestCase):
    def paper(self, program, f, room, ticks, spots):
        """The paper of spots, looked at by all that point 70 tells."""
        before = copy.deepcopy((program, room, spots))
        paper = never(program, f, room, ticks, spots)
        self.assertEqual((program, room, spots), before)
        self.assertIs(type(paper), tuple)
        self.assertEqual(len(paper), 5)
        self.assertEqual((paper[0], paper[2], paper[3]), (f, spots, ()))
        self.assertTrue(lets_by(program, paper))
        for values in inputs(program, f, room):
            self.assertTrue(input_holds(program, f, paper[1], values))
        for values in inputs(program, f, room)[::7]:
            for other in beyond_all(program, f, room, values):
                self.assertIs(input_holds(program, f, paper[1], other), in_room(program, f, room, other), other)
        return paper

    def all_of(self, program, f="f", room=SMALL, ticks=200):
        """The papers of all spots that are not met, of none of them, of each alone; those that are met are refused."""
        met = met_spots(program, f, room, ticks)
        unmet = tuple(spot for spot in spots_of(program) if spot not in met)
        self.paper(program, f, room, ticks, unmet)
        self.paper(program, f, room, ticks, tuple(reversed(unmet)))
        self.paper(program, f, room, ticks, ())
        for spot in unmet[:4]:
            self.paper(program, f, room, ticks, (spot,))
        for spot, values in met.items():
            for spots in ((spot,), unmet + (spot,)):
                with self.assertRaises(NoNever) as caught:
                    never(program, f, room, ticks, spots)
                self.assertEqual(caught.exception.given, values)
        return unmet

    def test_no_params(self):
        program = made("function f num\nend")
        self.assertEqual(self.all_of(program), ())
        self.assertEqual(self.paper(program, "f", SMALL, 0, ()), ("f", (), (), (), (("gave", ()),)))
        program = made("function f num\nlocal i num\nwhile less var i 3\nlet i add var i 1\nend\nsay up less 3 var i\ngive var i\nend")
        self.assertEqual(self.all_of(program), (("line", "f", 3),))

    def test_numbers(self):
        program = made("""
            function f num x num y num
            if less add var x times 3 var y -7
                give 1
            else
                if same rest 3 var x 2
                    if less var x -1
                        give 2
                    else
                    end
                else
                end
            end
            say half not same times 2 div 2 add var x var y 5
            give div 4 sub var x var y
            end
        """)
        self.assertEqual(self.all_of(program), (("way", "f", 3, True), ("line", "f", 4), ("breaks", "f", 5, "half")))

    def test_rows(self):
        program = made("""
            function f num q row
            local s num
            local i num
            while less var i len var q
                let s add var s at var q var i
                let i add var i 1
            end
            if less 4 var s
                let s at var q 2
            else
            end
            if same len var q 2
                let s at var q 1
            else
            end
            say low less -5 var s
            give at more var q 4 len var q
            end
        """)
        unmet = self.all_of(program, room=(-2, 2, 2, 97, 97))
        self.assertEqual(unmet, (("breaks", "f", 1, "range"), ("way", "f", 3, True), ("line", "f", 4), ("breaks", "f", 4, "range"),
                                 ("breaks", "f", 6, "range"), ("breaks", "f", 7, "low"), ("breaks", "f", 8, "range")))

    def test_texts(self):
        program = made("""
            function f row t text
            local c num
            if less 0 len var t
                let c at var t 0
                say sign not same var c 37
                if same var c 36
                    give signs var t
                else
                end
                if less var c 36
                    let c at var t 2
                else
                end
            else
            end
            give put rows 2 1 2 rest 2 len var t at signs text 2 65 66 0
            end
        """)
        for room in ((0, 0, 1, 36, 38), (0, 0, 2, 36, 38), (0, 0, 3, 36, 38), (0, 0, 2, 37, 38), (0, 0, 2, 36, 37)):
            unmet = self.all_of(program, room=room)
            self.assertIn(("breaks", "f", 2, "sign"), unmet)
        self.assertEqual(len(self.all_of(program, room=(0, 0, 2, 37, 37))), 15)
        self.assertIn(("breaks", "f", 2, "sign"), self.all_of(program, room=(0, 0, 1, 32, 126)))

    def test_records(self):
        program = made("""
            record point x num y num
            record sheet title text at point cells row
            function f point s sheet
            local p point
            let p of at var s
            if less of x var p of y var p
                let p with x var p of y var p
            else
                let p new point 2 of x var p of x of at var s
            end
            say order not less of x var p of y var p
            say same same of x var p of y of with at var s var p at
            give with y of at var s len of cells with cells var s rows 1 len of title var s
            end
        """.replace("of y of with at var s var p at", "of y of at with at var s var p"))
        self.assertEqual(self.all_of(program, room=(-1, 1, 1, 97, 98)), (("breaks", "f", 4, "order"), ("breaks", "f", 5, "same")))

    def test_calls(self):
        program = made("""
            function f num x num
            local r num
            call r fact 1 var x
            say big less var r 7
            call r odd 1 times 2 var x
            say even same var r 0
            call r void 0
            say nought same var r 0
            give var r
            end
            function fact num n num
            local m num
            local i num
            local s num
            if less var n 1
                give 1
            else
                call m fact 1 sub var n 1
            end
            while less var i var n
                let s add var s var m
                let i add 1 var i
            end
            give var s
            end
            function odd num n num
            if same var n 0
                give 0
            else
                if less var n 0
                    call n even 1 add var n 1
                else
                    call n even 1 sub var n 1
                end
                give var n
            end
            end
            function even num n num
            if same var n 0
                give 1
            else
                call n odd 1 sub var n 1
                give var n
            end
            end
            function void num
            end
            function never num x num
            give at rows 1 3 var x
            end
        """)
        unmet = self.all_of(program, room=(0, 3, 0, 97, 97))
        self.assertIn(("breaks", "f", 1, "big"), unmet)
        self.assertIn(("breaks", "f", 3, "even"), unmet)
        self.assertIn(("breaks", "never", 0, "range"), unmet)

    def test_breaks_end_runs(self):
        """Behind a line that broke nothing is met; breaking lines of all words, in the first frame and in others."""
        program = made("""
            function f num q row x num
            local r num
            if less var x 0
                let r at var q var x
                let r 0
            else
                if same var x 0
                    call r g 1 at var q 3
                    let r 0
                else
                    call r g 1 var x
                    let r 0
                end
            end
            give at put var q 3 1 0
            end
            function g num x num
            local q row
            if less var x 2
                say no less var x 1
                let x 0
            else
            end
            give at var q 0
            end
        """)
        unmet = self.all_of(program, room=(-1, 2, 1, 97, 97))
        for spot in (("line", "f", 2), ("line", "f", 5), ("line", "f", 7), ("line", "f", 8), ("line", "g", 2), ("breaks", "f", 8, "range")):
            self.assertIn(spot, unmet)

    def test_conditions_with_alternatives(self):
        program = made("""
            function f num x num y num
            if and or same var x 1 less var y 0 not same var x var y
                say one or not same var x 0 not same var y 0
            else
                say two not and less var y 0 not less var x 1
            end
            while not or same var x 2 less 2 var x
                let x add var x 1
            end
            say end same var x 2
            end
        """)
        self.assertEqual(self.all_of(program, room=(-2, 2, 0, 97, 97)), (("breaks", "f", 1, "one"), ("breaks", "f", 2, "two"), ("breaks", "f", 5, "end")))

    def test_four_hundred_inputs(self):
        program = made("function f num x num y num\nlet x add var x var y\nend\nfunction g num x num\nend")
        room = (-9, 9, 0, 97, 97)
        self.assertEqual(how_many(program, "f", room), 361)
        self.paper(program, "f", room, 5, ())
        program = made("function f num t text b num a num\nend\nfunction g num x num\nlet x 1\nend")
        room = (-1, 1, 1, 40, 82)
        self.assertEqual(how_many(program, "f", room), 396)
        self.paper(program, "f", room, 5, tuple(spots_of(program)))

    def test_long_rows(self):
        """A row of sixty made, put into, and added up; some 450 lines."""
        program = made("""
            function f num x num
            local q row
            local i num
            local s num
            while less var i 60
                let q more var q add var i var x
                let i add 1 var i
            end
            let i 0
            while less var i 60
                let q put var q var i sub at var q var i var i
                let s add var s at var q var i
                let i add 1 var i
            end
            say sum same var s times 60 var x
            give var s
            end
        """)
        room = (3, 3, 0, 97, 97)
        unmet = (("breaks", "f", 5, "range"), ("breaks", "f", 6, "range"), ("breaks", "f", 8, "sum"))
        self.paper(program, "f", room, 450, unmet)

    def test_long_runs(self):
        """Terms that would grow without end: sums, quotients, rows, texts and records, within loops and calls."""
        program = made("""
            record pair a num b row
            function f num x num
            local p pair
            local i num
            local s num
            let p new pair 2 var x rows 3 var x 2 3
            while less var i 36
                let s add var s at of b var p rest 3 var i
                let p with a var p div 2 add of a var p var s
                let p with b var p put of b var p rest 3 var s rest 7 of a var p
                call s g 3 var s of a var p text 3 65 66 67
                let i add 1 var i
            end
            say low less -1 var s
            give var s
            end
            function g num n num m num t text
            let n add at var t rest 3 var n sub div 3 var n rest 5 var m
            give rest 99 add var n times 3 var m
            end
        """)
        room = (-1, 0, 0, 97, 97)
        met = met_spots(program, "f", room, 320)
        self.paper(program, "f", room, 320, tuple(spot for spot in spots_of(program) if spot not in met))

    def test_deep_calls(self):
        program = made("""
            function f num x num n num
            if less 0 var n
                call x f 2 add var x var n sub var n 1
            else
            end
            say up less -1 var x
            give add 1 var x
            end
            function g num
            local i num
            call i f 2 0 97
            give var i
            end
        """)
        self.paper(program, "g", SMALL, 400, (("breaks", "f", 2, "up"),))

    def test_great_numbers(self):
        program = made("""
            function f num x num
            local i num
            while less var i 56
                let x times 2 var x
                let i add 1 var i
            end
            say rest same rest 64 var x 0
            say half less div 99 var x 999999
            give var x
            end
        """)
        self.assertEqual(self.all_of(program, room=(-9, -9, 0, 97, 97)), (("breaks", "f", 3, "rest"), ("breaks", "f", 4, "half")))

    def test_terms_near_the_bounds(self):
        """Terms within the bounds where the variables are unknowns; not where others stand in their place."""
        program = made("""
            function f num x num
            local t text
            local q row
            let t text 40 SIGNS
            let x at var t at var t at var t at var t at var t var x
            let q signs var t
            let x at var q rest 40 at var q rest 40 var x
            let q more more more more more var q 1 2 3 4 5
            let q put put var q 1 var x 2 at var q var x
            let x rest 3 rest 5 rest 7 rest 2 var x
            give at more more var q 1 2 var x
            end
        """.replace("SIGNS", " ".join(str((33, 34, 36, 38, 39, 32)[k % 6]) for k in range(40))))
        room = (0, 2, 0, 97, 97)
        met = met_spots(program, "f", room, 320)
        unmet = tuple(spot for spot in spots_of(program) if spot not in met)
        self.assertTrue(unmet)
        self.paper(program, "f", room, 320, unmet)


class Refused(unittest.TestCase):
    PROGRAM = made("""
        function f num x num
        local i num
        while less var i var x
            let i add 1 var i
        end
        if less 1 var x
            say no less var x 1
        else
        end
        give at rows 2 5 6 var x
        end
    """)

    def refused(self, kind, given, *args):
        with self.assertRaises(kind) as caught:
            never(self.PROGRAM, *args)
        self.assertEqual(caught.exception.given, given)
        self.assertIsInstance(caught.exception, ForkError)
        for other in (NoText, NoProgram, NoEnd, NoNever, NoRow):
            self.assertIs(isinstance(caught.exception, other), other is kind)

    def test_no_end(self):
        room = (-2, 4, 0, 97, 97)
        for spots in ((), (("line", "f", 0),), (("line", "f", 4),), tuple(spots_of(self.PROGRAM))):
            self.refused(NoEnd, (0,), "f", room, 0, spots)
            self.refused(NoEnd, (0,), "f", room, 2, spots)
            self.refused(NoEnd, (1,), "f", room, 3, spots)
            self.refused(NoEnd, (1,), "f", room, 4, spots)
            self.refused(NoEnd, (3,), "f", room, 8, spots)
            self.refused(NoEnd, (4,), "f", room, 10, spots)

    def test_no_never(self):
        room = (-2, 4, 0, 97, 97)
        self.refused(NoNever, (0,), "f", room, 11, (("line", "f", 0),))
        self.refused(NoNever, (1,), "f", room, 11, (("line", "f", 1),))
        self.refused(NoNever, (2,), "f", room, 11, (("breaks", "f", 3, "no"),))
        self.refused(NoNever, (-1,), "f", room, 11, (("breaks", "f", 4, "range"),))
        self.refused(NoNever, (-1,), "f", room, 11, (("breaks", "f", 3, "no"), ("breaks", "f", 4, "range")))
        self.refused(NoNever, (0,), "f", room, 11, (("breaks", "f", 4, "range"), ("way", "f", 2, False)))
        # Where both are: a run that is dry comes first, though a lesser input meets the spot.
        self.refused(NoEnd, (4,), "f", room, 10, (("line", "f", 0),))
        self.assertTrue(lets_by(self.PROGRAM, never(self.PROGRAM, "f", (0, 1, 0, 97, 97), 11, (("line", "f", 3), ("breaks", "f", 4, "range")))))


class ManyPrograms(unittest.TestCase):
    ROOMS = ((0, 0, 0, 97, 97), (-1, 0, 0, 97, 97), (0, 1, 1, 97, 97), (0, 0, 1, 37, 38), (2, 2, 1, 36, 38), (1, 1, 2, 97, 97), (-3, -3, 1, 97, 98))

    def test_each_spot_is_met_or_claimed(self):
        counts = {"told": 0, "dry": 0}
        for seed in range(60):
            program = Maker(seed).program()
            room = self.ROOMS[seed % len(self.ROOMS)]
            ends = [run(program, "one", values, 80)[0] for values in inputs(program, "one", room)]
            if ("dry",) in ends:
                self.assertRaises(NoEnd, never, program, "one", room, 80, ())
                counts["dry"] += 1
                continue
            met = met_spots(program, "one", room, 80)
            unmet = tuple(spot for spot in spots_of(program) if spot not in met)
            paper = never(program, "one", room, 80, unmet)
            self.assertTrue(lets_by(program, paper), seed)
            self.assertEqual(paper[2], unmet)
            counts["told"] += 1
            # What is let by is so, for whatever input the pre holds.
            for values in some_inputs(program, "one", 10, seed) + inputs(program, "one", room)[:5]:
                self.assertEqual(broken_claims(program, paper, values), [])
            for spot, values in list(met.items())[::5]:
                with self.assertRaises(NoNever) as caught:
                    never(program, "one", room, 80, (spot,))
                self.assertEqual(caught.exception.given, values)
        self.assertGreater(counts["told"], 30)
        self.assertGreater(counts["dry"], 3)


if __name__ == "__main__":
    unittest.main()
