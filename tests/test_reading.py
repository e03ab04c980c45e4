"""Rows that are read, and those that are refused (point 18)."""

import unittest

from everyfork.errors import NoProgram, NoText
from everyfork.programs import right_program
from everyfork.reading import read
from everyfork.texts import shown
from tests.samples import WHOLE, Maker
from tests.test_texts import ROWS

HEAD = ["function f num x num", "local y num"]


class Reading(unittest.TestCase):
    def refused(self, rows, number):
        before = list(rows)
        try:
            told = read(rows)
        except NoText as e:
            self.assertEqual(e.row, number, rows)
            self.assertEqual(rows, before)
            return
        self.fail(f"read: {rows!r} as {told!r}")

    def row(self, row, statement):
        """A row of a statement that is read, its bodies void."""
        rows = {"if": [row, "else", "end"], "while": [row, "end"]}.get(statement[0], [row])
        self.assertEqual(read(HEAD + rows + ["end"]), ((), (("f", (("x", "num"),), (("y", "num"),), "num", (statement,)),)))

    def no_row(self, *rows):
        """Rows that are none, as the third of a function."""
        for row in rows:
            self.refused(HEAD + [row, "end"], 2)
            self.refused(HEAD + ["give 1", row, "end"], 3)
            self.refused(HEAD + ["while less 1 2", row, "end", "end"], 3)

    def expression(self, words, e):
        self.row("let x " + words, ("let", "x", e))
        self.row("give " + words, ("give", e))
        self.row("call x f 2 1 " + words, ("call", "x", "f", (("num", 1), e)))
        self.row("say low less " + words + " 3", ("say", "low", ("less", e, ("num", 3))))
        self.row("while not same 3 " + words, ("while", ("not", ("same", ("num", 3), e)), ()))

    def no_expression(self, *words):
        for one in words:
            self.no_row("let x " + one, "give " + one, "call x f 2 1 " + one, "say low less " + one + " 3",
                        "while not same 3 " + one)


class Right(Reading):
    def test_what_is_not_right_is_read(self):
        rows = ["record p", "record p a num a none b p c p d p e text", "function f none x none x num a num b num c num d num",
                "local x num", "local x text", "let z of none 1", "give new none 0", "call z none 1 text 0", "say low same var q rows 1 rows 0",
                "if not not not not not not not less at 1 2 put 1 2 3", "else", "end", "end", "function f num", "end"]
        told = read(rows)
        self.assertEqual(shown(told), rows)
        self.assertEqual(told[0][0], ("p", ()))
        self.assertEqual(told[1][0][:4], (
            "f", (("x", "none"), ("x", "num"), ("a", "num"), ("b", "num"), ("c", "num"), ("d", "num")),
            (("x", "num"), ("x", "text")), "none"))
        self.assertEqual(told[1][1], ("f", (), (), "num", ()))
        with self.assertRaises(NoProgram):
            right_program(told)

    def test_more_than_a_program_may_have(self):
        rows = [f"record {name} a num" for name in "abcdefg"]
        for name in "abcdefgh":
            rows.extend([f"function {name} num"] + ["local x num"] * 9 + ["give 1"] * 35 + ["end"])
        told = read(rows)
        self.assertEqual((len(told[0]), len(told[1]), len(told[1][7][2]), len(told[1][7][4])), (7, 8, 9, 35))
        self.assertEqual(len(rows), 375)

    def test_forty_statements_within_one_another(self):
        for deep in (40, 150):
            rows = ["function f num"] + ["while less 1 2"] * deep + ["give 1"] + ["end"] * deep + ["end"]
            body = (("give", ("num", 1)),)
            for _ in range(deep):
                body = (("while", ("less", ("num", 1), ("num", 2)), body),)
            self.assertEqual(read(rows), ((), (("f", (), (), "num", body),)))
            rows = ["function f num"] + ["if less 1 2", "else"] * deep + ["end"] * deep + ["end"]
            told = read(rows)
            self.assertEqual(shown(told), rows)

    def test_forty_words_within_one_another(self):
        for deep in (39, 195):
            e = ("var", "x")
            for _ in range(deep):
                e = ("add", e, ("num", 1))
            self.row("let x " + "add " * deep + "var x" + " 1" * deep, ("let", "x", e))
            c = ("less", ("num", 1), ("num", 2))
            for _ in range(deep):
                c = ("not", c)
            self.row("if " + "not " * deep + "less 1 2", ("if", c, (), ()))

    def test_kinds_told(self):
        told = read(ROWS)
        def look(thing):
            self.assertIn(type(thing), (tuple, int, str))
            if type(thing) is tuple:
                for inner in thing:
                    look(inner)
        look(told)
        self.assertEqual(told, WHOLE)

    def test_forty(self):
        self.expression("text 40" + " 97" * 40, ("text", "a" * 40))
        self.expression("rows 40" + " 1" * 40, ("rows", (("num", 1),) * 40))
        self.expression("new p 40" + " 1" * 40, ("new", "p", (("num", 1),) * 40))
        self.row("call x g 40" + " 1" * 40, ("call", "x", "g", (("num", 1),) * 40))

    def test_numbers(self):
        for number in (0, 7, -7, 10 ** 6, -10 ** 6):
            self.expression(str(number), ("num", number))
            self.expression(f"times {number} 1", ("times", number, ("num", 1)))
        for number in (2, 10, 99):
            self.expression(f"div {number} 1", ("div", ("num", 1), number))
            self.expression(f"rest {number} 1", ("rest", ("num", 1), number))

    def test_signs(self):
        for number in (32, 36, 38, 126):
            self.expression(f"text 1 {number}", ("text", chr(number)))
        self.expression("text 0", ("text", ""))

    def test_every_word(self):
        one, two, three = ("num", 1), ("num", 2), ("num", 3)
        self.expression("var let", ("var", "let"))
        self.expression("of a 1", ("of", one, "a"))
        self.expression("with a 1 2", ("with", one, "a", two))
        self.expression("new p 2 1 2", ("new", "p", (one, two)))
        self.expression("new p 0", ("new", "p", ()))
        for word in ("add", "sub", "at", "more"):
            self.expression(word + " 1 2", (word, one, two))
        for word in ("len", "signs"):
            self.expression(word + " 1", (word, one))
        self.expression("put 1 2 3", ("put", one, two, three))
        self.expression("rows 3 1 2 3", ("rows", (one, two, three)))
        self.expression("add put 1 len 2 var x sub 3 text 1 97",
                        ("add", ("put", one, ("len", two), ("var", "x")), ("sub", three, ("text", "a"))))


class Lacking(Reading):
    def test_no_rows(self):
        self.refused([], 0)

    def test_no_function(self):
        self.refused(["record p x num"], 1)
        self.refused(["record p x num", "record q x num"], 2)

    def test_no_end(self):
        for many in range(len(ROWS)):
            if ROWS[many].startswith("function") and many > 3:
                self.assertEqual(len(read(ROWS[:many])[1]), 1 if many < 40 else 2)
            else:
                self.refused(ROWS[:many], many)
        self.refused(["function f num"], 1)
        self.refused(["function f num", "if less 1 2"], 2)
        self.refused(["function f num", "if less 1 2", "else", "end"], 4)
        self.refused(["function f num", "while less 1 2", "end"], 3)


class Places(Reading):
    def test_first_words(self):
        for row in ("", " ", "none", "let x 1", "end", "else", "local x num", "give 1", "Function f num", "functions f num",
                    "1", "var x", "less 1 2", "text 0"):
            self.refused([row], 0)
            self.refused([row] + ROWS, 0)
            self.refused(["record p x num", row, "function f num", "end"], 1)
            self.refused(["function f num", "end", row], 2)

    def test_records_ahead_of_functions(self):
        self.refused(["function f num", "end", "record p x num"], 2)
        self.refused(["function f num", "record p x num", "end"], 1)

    def test_functions_within(self):
        self.refused(["function f num", "function g num", "end", "end"], 1)
        self.refused(["function f num", "while less 1 2", "function g num", "end", "end", "end"], 2)

    def test_locals(self):
        self.refused(["function f num", "give 1", "local x num", "end"], 2)
        self.refused(["function f num", "while less 1 2", "local x num", "end", "end"], 2)
        self.refused(["function f num", "while less 1 2", "end", "local x num", "end"], 3)
        self.refused(["function f num", "local x num", "give 1", "local y num", "end"], 3)
        self.refused(["function f num", "if less 1 2", "else", "local y num", "end", "end"], 3)

    def test_else_and_end(self):
        self.refused(["function f num", "else", "end"], 1)
        self.refused(["function f num", "while less 1 2", "else", "end", "end"], 2)
        self.refused(["function f num", "if less 1 2", "else", "else", "end", "end"], 3)
        self.refused(["function f num", "if less 1 2", "end", "end"], 2)
        self.refused(["function f num", "if less 1 2", "while less 1 2", "else", "end", "end"], 3)
        self.refused(["function f num", "if less 1 2", "else", "while less 1 2", "else", "end", "end", "end"], 4)
        self.refused(["function f num", "end", "end"], 2)
        self.refused(["function f num", "end", "function g num", "end", "end"], 4)

    def test_more_words(self):
        for number, row in enumerate(ROWS):
            for word in ("x", "num", "1", "", "end"):
                self.refused(ROWS[:number] + [row + " " + word] + ROWS[number + 1:], number)

    def test_blanks(self):
        for number, row in enumerate(ROWS):
            for other in (" " + row, row + " ", row.replace(" ", "  ", 1) if " " in row else " " + row, row + "\n", "\t" + row):
                self.refused(ROWS[:number] + [other] + ROWS[number + 1:], number)

    def test_a_word_let_go(self):
        let_by = []
        for number, row in enumerate(ROWS):
            words = row.split(" ")
            for place in range(len(words)):
                other = " ".join(words[:place] + words[place + 1:])
                if self.refuse_or_read(number, other):
                    let_by.append(other)
        self.assertEqual(let_by, [
            "say not same var n 3", "say ready same var n 3", "if and less var n 0 or less 2 var n same var t 0",
            "let signs var t", "let q var t", "let with at var s var p", "let out at var s var p",
            "let q put rows 1 var i rest 99 var n 5"])

    def test_a_word_told_twice(self):
        let_by = []
        for number, row in enumerate(ROWS):
            words = row.split(" ")
            for place in range(len(words)):
                other = " ".join(words[:place + 1] + words[place:])
                if self.refuse_or_read(number, other):
                    let_by.append(other)
        self.assertEqual(let_by, ["say ready not not same var n 3",
                                  "if and less var n 0 or less 2 var n same len len var t 0", "let q signs signs var t"])

    def refuse_or_read(self, number, row):
        """A row in the place of another: refused at its number, or read and shown again just so (not not, ..)."""
        rows = ROWS[:number] + [row] + ROWS[number + 1:]
        try:
            told = read(rows)
        except NoText as e:
            self.assertEqual(e.row, number, row)
            return False
        self.assertEqual(shown(told), rows)
        return True

    def test_another_word_in_its_place(self):
        let_by = 0
        for number, row in enumerate(ROWS):
            words = row.split(" ")
            if words[0] in ("if", "while", "else", "end", "function", "record"):
                continue
            for place in range(1, len(words)):
                for word in ("x", "num", "0", "-1", "37", "add", "range", "abcdefghi", "X", "1000001", "", "+1", "01", "-0"):
                    let_by += self.refuse_or_read(number, " ".join(words[:place] + [word] + words[place + 1:]))
        self.assertGreater(let_by, 50)

    def test_a_row_put_elsewhere(self):
        rows = ["record p x num", "function f num", "local y num", "if less 1 2", "give 1", "else", "give 2", "end", "end"]
        self.refused(rows[1:2] + rows[:1] + rows[2:], 1)
        self.refused(rows[:1] + rows[2:], 1)
        self.refused(rows[:2] + rows[3:4] + rows[2:3] + rows[4:], 3)
        self.refused(rows[:3] + rows[4:], 4)
        self.refused(rows[:5] + rows[6:], 6)
        self.refused(rows[:7] + rows[8:], 8)
        self.refused(rows[:6] + rows[5:], 6)
        self.refused(rows[:8] + rows[7:], 9)
        self.refused(rows[:2] + rows[1:], 2)
        self.refused(rows + rows, 9)
        for again in (0, 2, 4, 6):
            read(rows[:again] + [rows[again]] + rows[again:])

    def test_the_first_is_told(self):
        self.refused(["function f num", "none", "none", "end"], 1)
        self.refused(["none", "function f num"], 0)
        self.refused(["function f num", "while less 1 2", "none"], 2)


class Words(Reading):
    def test_names(self):
        for name in ("", "abcdefghi", "A", "a1", "1", "num", "text", "row", "gives", "rounds", "range", "a_b", "-"):
            self.refused([f"record {name} x num", "function f num", "end"], 0)
            self.refused([f"record p {name} num", "function f num", "end"], 0)
            self.refused([f"function {name} num", "end"], 0)
            self.refused([f"function f num {name} num", "end"], 0)
            self.refused(["function f num", f"local {name} num", "end"], 1)
            self.no_row(f"let {name} 1", f"say {name} less 1 2", f"call {name} f 0", f"call x {name} 0")
            self.no_expression(f"var {name}", f"of {name} 1", f"with {name} 1 2", f"new {name} 0")

    def test_kinds(self):
        for kind in ("num", "text", "row", "none", "let", "abcdefgh"):
            told = read([f"record p x {kind}", f"function f {kind} x {kind}", f"local y {kind}", "end"])
            self.assertEqual(told, ((("p", (("x", kind),)),), (("f", (("x", kind),), (("y", kind),), kind, ()),)))
        for kind in ("", "abcdefghi", "Num", "gives", "rounds", "range", "1", "num1"):
            self.refused([f"record p x {kind}", "function f num", "end"], 0)
            self.refused([f"function f {kind}", "end"], 0)
            self.refused([f"function f num x {kind}", "end"], 0)
            self.refused(["function f num", f"local y {kind}", "end"], 1)

    def test_pairs(self):
        for row in ("record", "record p x", "record p x num y", "function", "function f", "function f num x",
                    "function f num x num y"):
            self.refused([row, "function f num", "end"], 0)
        for row in ("local", "local x", "local x num y", "local x num y num"):
            self.refused(["function f num", row, "end"], 1)

    def test_numbers(self):
        for word in ("1000001", "-1000001", "00", "01", "-01", "-0", "+1", "+0", "--1", "-", "1.0", "1e3", "1_0", "0x1",
                     "10000000", "00000001", "9" * 60, "-" + "9" * 60, "9" * 5000, " 1", "one", "\u0661", "1-", "1-1"):
            self.no_expression(word, f"times {word} 1")

    def test_divisors(self):
        for word in ("1", "100", "0", "-2", "02", "+2", "var", "x", "", "2.0", "9999999"):
            self.no_expression(f"div {word} 1", f"rest {word} 1")
        self.no_expression("div 1 2 1", "rest var x 2", "div var x 2")

    def test_many(self):
        for word in ("41", "-1", "01", "+1", "00", "-0", "x", "", "1000"):
            self.no_expression(f"text {word} 97", f"rows {word} 1", f"new p {word} 1")
            self.no_expression(f"text {word}", f"rows {word}", f"new p {word}")
            self.no_row(f"call x f {word} 1", f"call x f {word}")
        self.no_expression("text 41" + " 97" * 41, "rows 41" + " 1" * 41, "new p 41" + " 1" * 41)
        self.no_row("call x f 41" + " 1" * 41)
        self.no_expression("text 2 97", "rows 2 1", "new p 2 1", "text 1", "rows 1", "new p 1", "text", "rows", "new p", "new")
        self.no_row("call x f 1", "call x f 0 1", "call x f 2 1", "call x f 1 1 2", "call x f", "call x", "call")
        self.no_expression("text 0 97", "rows 0 1", "new p 0 1", "text 1 97 98")

    def test_signs(self):
        for word in ("31", "127", "37", "-97", "097", "+97", "a", "", "0", "1000"):
            self.no_expression(f"text 1 {word}", f"text 2 97 {word}", f"text 2 {word} 97")

    def test_words_of_expressions(self):
        self.no_expression("", "num", "num 1", "none", "var", "of", "of x", "of x 1 2", "with x 1", "with x 1 2 3", "add 1",
                           "add 1 2 3", "sub 1", "times 2", "times 2 1 1", "div 2", "len", "len 1 2", "at 1", "at 1 2 3", "put 1 2",
                           "put 1 2 3 4", "more 1", "more 1 2 3", "signs", "signs 1 2", "less 1 2", "not less 1 2", "give 1",
                           "let x 1", "add let x 1 2", "add less 1 2 3", "Add 1 2", "add x 1")

    def test_words_of_conditions(self):
        for c in ("", "1", "var x", "less 1", "less 1 2 3", "same 1", "same 1 2 3", "and less 1 2", "and less 1 2 less 1 2 1",
                  "or less 1 2", "not", "not less 1 2 3", "not 1", "and 1 2", "or less 1 2 1", "less less 1 2 3", "add 1 2",
                  "not not", "equal 1 2", "say low less 1 2"):
            self.no_row("say low " + c, "if " + c, "while " + c, "say low not " + c, "if and less 1 2 " + c)

    def test_words_of_statements(self):
        self.no_row("let", "let x", "say", "say low", "say less 1 2", "if", "while", "give", "else 1", "end 1", "end end",
                    "local", "record", "less 1 2", "1", "var x", "let x let x 1", "give give 1")

    def test_every_shown_program_is_read(self):
        for seed in range(150, 200):
            thing = Maker(seed).program()
            rows = shown(thing)
            self.assertEqual(read(rows), thing)
            for number in range(len(rows)):
                self.refused(rows[:number] + ["none"] + rows[number + 1:], number)


if __name__ == "__main__":
    unittest.main()
