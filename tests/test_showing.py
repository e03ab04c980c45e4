"""Papers by what is kept (points 71 and 72)."""

import copy
import itertools
import unittest

from everyfork.checker import lets_by
from everyfork.showing import shown_by
from tests.formed import form, least
from tests.walked import (ADDING, ADDING_CLAIMS, ADDING_KEPT, ADDING_PRE, CALLING, CALLING_CLAIMS, CALLING_POST, CALLING_PRE, LEN_Q,
                          broken_claims, made, name, some_inputs, was)

ROUNDS = ("rounds",)
ZERO = (0, ())


def between(low, thing, high):
    """The two facts that a thing is from low to high, forms."""
    one = form(-low[0], *[(inner, -often) for inner, often in low[1]], (thing, 1))
    other = form(high[0], *high[1], (thing, -1))
    return (("least", one), ("least", other))


def same(thing, other):
    """The two facts that a thing is another one."""
    return between(form(0, (other, 1)), thing, form(0, (other, 1)))


class Shown(unittest.TestCase):
    def shown(self, program, f, pre, claims, kept, contracts, ticks=80):
        """A paper, looked at by all that points 71 and 72 tell, and over some inputs."""
        before = copy.deepcopy((program, pre, claims, kept, contracts))
        paper = shown_by(program, f, pre, claims, kept, contracts)
        self.assertEqual((program, pre, claims, kept, contracts), before)
        self.assertIsNotNone(paper)
        self.assertTrue(lets_by(program, paper))
        self.assertEqual(paper[:3], (f, pre, claims))
        self.assertEqual([contract[:3] for contract in paper[3]], [(g,) + contracts[g] for g in sorted(contracts)])
        for values in some_inputs(program, f, 60, 7):
            self.assertEqual(broken_claims(program, paper, values, ticks), [], values)
        return paper

    def fails(self, program, f, pre, claims, kept, contracts):
        before = copy.deepcopy((program, pre, claims, kept, contracts))
        self.assertIsNone(shown_by(program, f, pre, claims, kept, contracts))
        self.assertEqual((program, pre, claims, kept, contracts), before)


class Whiles(Shown):
    def test_over_a_row(self):
        self.shown(ADDING, "sum", ADDING_PRE, ADDING_CLAIMS, ADDING_KEPT, {})
        for many in range(4):
            for claims in itertools.permutations(ADDING_CLAIMS, many):
                self.shown(ADDING, "sum", ADDING_PRE, claims, ADDING_KEPT, {})

    def test_void_kept(self):
        paper = self.shown(ADDING, "sum", (), (), {("sum", 0): ()}, {})
        self.assertEqual(paper[4], (("keep", (), ()), ("do", ()), ("do", ()), ("kept", ()), ("do", ()), ("gave", ())))

    def test_nothing_kept(self):
        self.fails(ADDING, "sum", ADDING_PRE, (), {}, {})
        self.fails(ADDING, "sum", ADDING_PRE, (), {("sum", 1): (), ("sum", 3): ()}, {})

    def test_what_is_kept_left_out(self):
        facts = ADDING_KEPT[("sum", 0)]
        wanted = {0: ({0}, {2}), 1: ({1},), 2: ({2},)}
        # What of the facts each claim needs: without one of these it fails.
        for place, claim in enumerate(ADDING_CLAIMS):
            for many in range(5):
                for chosen in itertools.combinations(range(4), many):
                    kept = {("sum", 0): tuple(facts[k] for k in chosen)}
                    if any(one <= set(chosen) for one in wanted[place]):
                        self.shown(ADDING, "sum", ADDING_PRE, (claim,), kept, {})
                    else:
                        self.fails(ADDING, "sum", ADDING_PRE, (claim,), kept, {})

    def test_not_kept(self):
        """Specs that don't hold when the while is come to, or that a round does not keep."""
        for fact in (least(-1, (name("i"), 1)), least(5, (name("i"), -1)), least(0, (name("s"), 1)), least(-1), least(0, (was("i"), 1), (name("i"), -1)),
                     least(3, (ROUNDS, -1))):
            self.fails(ADDING, "sum", ADDING_PRE, (), {("sum", 0): (fact,)}, {})
        for fact in (least(0), least(0, (name("i"), 1)), least(0, (was("i"), -1), (name("i"), 1)), least(7, (was("s"), 1)), least(0, (ROUNDS, 1)), least(0, (LEN_Q, 1))):
            self.shown(ADDING, "sum", ADDING_PRE, (), {("sum", 0): (fact,)}, {})

    def test_a_pre_too_weak(self):
        self.fails(ADDING, "sum", (), ADDING_CLAIMS[:1], ADDING_KEPT, {})
        self.fails(ADDING, "sum", (least(1, (LEN_Q, 1)),), ADDING_CLAIMS[:1], ADDING_KEPT, {})
        self.shown(ADDING, "sum", (least(-1, (LEN_Q, 1)),), ADDING_CLAIMS, ADDING_KEPT, {})

    def test_a_bound_too_sharp(self):
        for number, right in ((5, True), (0, True), (-1, False)):
            claims = (("rounds", "sum", 0, form(number, (LEN_Q, 1))),)
            (self.shown if right else self.fails)(ADDING, "sum", ADDING_PRE, claims, ADDING_KEPT, {})
        self.shown(ADDING, "sum", ADDING_PRE + (least(4, (LEN_Q, -1)),), (("rounds", "sum", 0, (4, ())),), ADDING_KEPT, {})
        self.fails(ADDING, "sum", ADDING_PRE + (least(4, (LEN_Q, -1)),), (("rounds", "sum", 0, (3, ())),), ADDING_KEPT, {})
        two = (("rounds", "sum", 0, form(1, (LEN_Q, 1))), ("rounds", "sum", 0, form(0, (LEN_Q, 1))))
        self.shown(ADDING, "sum", ADDING_PRE, two, ADDING_KEPT, {})
        self.fails(ADDING, "sum", ADDING_PRE, two + (("rounds", "sum", 0, form(-1, (LEN_Q, 1))),), ADDING_KEPT, {})

    def test_one_within_another(self):
        program = made("""
            function f num n num
            local i num
            local j num
            local s num
            while less var i var n
                let j 0
                while less var j var i
                    let s add var s 1
                    let j add 1 var j
                end
                let i add 1 var i
            end
            say up not less var s 0
            say all same var i var n
            give var s
            end
        """)
        n, i, j, s = name("n"), name("i"), name("j"), name("s")
        pre = (least(0, (n, 1)),)
        up = least(0, (s, 1))
        bound = form(0, (n, 1))
        kept = {("f", 0): between(ZERO, i, bound) + same(i, ROUNDS) + (up,),
                ("f", 2): between(ZERO, j, form(0, (i, 1))) + same(j, ROUNDS) + (up,)}
        claims = (("rounds", "f", 0, bound), ("rounds", "f", 2, form(0, (i, 1))), ("rounds", "f", 2, form(-1, (n, 1))), ("breaks", "f", 6, "up"), ("breaks", "f", 7, "all"))
        self.shown(program, "f", pre, claims, kept, {}, 200)
        self.fails(program, "f", pre, claims[:2] + (("rounds", "f", 2, form(-2, (n, 1))),), kept, {})
        self.fails(program, "f", pre, claims, {("f", 0): kept[("f", 0)]}, {})
        # The inner while does not tell what becomes of s: then the outer one can't keep it.
        self.fails(program, "f", pre, (), {("f", 0): kept[("f", 0)], ("f", 2): kept[("f", 2)][:-1]}, {})
        self.shown(program, "f", pre, (), {("f", 0): kept[("f", 0)][:-1], ("f", 2): kept[("f", 2)][:-1]}, {}, 200)
        # By was: s is not less than it was.
        kept = {("f", 0): (least(0, (s, 1)),), ("f", 2): (least(0, (s, 1), (was("s"), -1)),)}
        self.shown(program, "f", (), claims[3:4], kept, {}, 200)

    def test_a_while_that_is_never_gone_into(self):
        program = made("function f num x num\nwhile less var x 0\nlet x add var x 1\nend\ngive at rows 1 7 var x\nend")
        pre = (least(0, (name("x"), 1)), least(0, (name("x"), -1)))
        claims = (("line", "f", 1), ("way", "f", 0, True), ("breaks", "f", 2, "range"), ("rounds", "f", 0, ZERO))
        kept = {("f", 0): (least(0, (name("x"), 1)), least(0, (name("x"), -1)))}
        self.shown(program, "f", pre, claims, kept, {})
        self.fails(program, "f", pre[:1], claims, kept, {})
        self.fails(program, "f", pre, claims + (("rounds", "f", 0, (-1, ())), ("way", "f", 0, False)), kept, {})


class Straight(Shown):
    def test_lines_and_ways(self):
        program = made("""
            function f num x num
            if less var x 5
                let x 1
            else
                let x 2
            end
            give var x
            end
        """)
        low, high = (least(4, (name("x"), -1)),), (least(-5, (name("x"), 1)),)
        for pre, line, truth in ((low, 2, False), (high, 1, True)):
            for claims in ((("line", "f", line),), (("way", "f", 0, truth),), (("way", "f", 0, truth), ("line", "f", line))):
                self.shown(program, "f", pre, claims, {}, {})
                self.fails(program, "f", (), claims, {}, {})
            for claims in ((("line", "f", 3 - line),), (("way", "f", 0, not truth),), (("line", "f", 0),), (("line", "f", 3),)):
                self.fails(program, "f", pre, claims, {}, {})
        # All is so where no input is.
        self.assertEqual(self.shown(program, "f", low + high, (("line", "f", 0), ("line", "f", 3)), {}, {})[4], (("never", ((("sum", ((0, 1), (1, 1))),),)),))

    def test_sayings_and_lookings_up(self):
        program = made("""
            function f num q row x num
            say low not less var x 0
            say high less var x len var q
            let x at var q var x
            let q put var q sub len var q 1 var x
            give at more var q 3 len var q
            end
        """)
        x = name("x")
        claims = (("breaks", "f", 2, "range"), ("breaks", "f", 3, "range"), ("breaks", "f", 4, "range"))
        self.shown(program, "f", (), claims, {}, {})
        for claim in (("breaks", "f", 0, "low"), ("breaks", "f", 1, "high")):
            self.fails(program, "f", (), (claim,), {}, {})
        self.shown(program, "f", (least(0, (x, 1)), least(-1, (LEN_Q, 1), (x, -1))), tuple(("breaks", "f", k, word) for k, word in ((0, "low"), (1, "high"), (2, "range"))), {}, {})

    def test_no_one_sum(self):
        """What is so, but told by no one sum: twice a whole number is not 1, no row is shorter than 0."""
        program = made("function f num q row\ngive at more var q 3 len var q\nend")
        self.fails(program, "f", (), (("breaks", "f", 0, "range"),), {}, {})
        self.shown(program, "f", (least(0, (LEN_Q, 1)),), (("breaks", "f", 0, "range"),), {}, {})
        program = made("function f num x num\nsay odd not same times 2 var x 1\nend")
        self.fails(program, "f", (), (("breaks", "f", 0, "odd"),), {}, {})

    def test_a_term_beyond_the_bounds(self):
        line = "let x div 2 var x\n"
        self.shown(made("function f num x num\n" + line * 5 + "end"), "f", (), (), {}, {})
        self.fails(made("function f num x num\n" + line * 6 + "end"), "f", (), (), {}, {})

    def test_no_lines(self):
        program = made("function f num\nend")
        self.assertEqual(self.shown(program, "f", (), (), {}, {}), ("f", (), (), (), (("gave", ()),)))


class Calls(Shown):
    CONTRACTS = {"down": (CALLING_PRE, CALLING_POST)}

    def test_by_a_contract(self):
        paper = self.shown(CALLING, "top", CALLING_PRE, CALLING_CLAIMS, {}, self.CONTRACTS)
        self.assertEqual([node[0] for node in paper[4]], ["by", "do", "do", "gave"])
        self.shown(CALLING, "down", CALLING_PRE, (), {}, self.CONTRACTS)
        self.shown(CALLING, "down", (), (), {}, {"down": ((), ())})

    def test_a_function_under_way(self):
        self.fails(CALLING, "top", CALLING_PRE, (), {}, {})
        self.fails(CALLING, "down", CALLING_PRE, (), {}, {})
        # Where it can't go so deep it is walked into once.
        self.fails(CALLING, "top", (least(0, (name("n"), -1)), least(1, (name("n"), 1))), (), {}, {"top": ((), ())})
        self.shown(CALLING, "top", (least(0, (name("n"), -1)),), (("line", "down", 1), ("breaks", "top", 1, "ok")), {}, {})

    def test_a_pre_too_weak(self):
        self.fails(CALLING, "top", (), CALLING_CLAIMS, {}, self.CONTRACTS)
        self.fails(CALLING, "top", (least(1, (name("n"), 1)),), CALLING_CLAIMS, {}, self.CONTRACTS)
        self.fails(CALLING, "top", CALLING_PRE, CALLING_CLAIMS, {}, {"down": ((), CALLING_POST)})
        self.fails(CALLING, "top", CALLING_PRE, CALLING_CLAIMS, {}, {"down": ((least(-1, (name("n"), 1)),), CALLING_POST)})

    def test_a_post_too_weak_or_too_strong(self):
        self.fails(CALLING, "top", CALLING_PRE, CALLING_CLAIMS, {}, {"down": (CALLING_PRE, CALLING_POST[:2])})
        self.shown(CALLING, "top", CALLING_PRE, CALLING_CLAIMS[:1], {}, {"down": (CALLING_PRE, CALLING_POST[:1])})
        self.fails(CALLING, "top", CALLING_PRE, CALLING_CLAIMS, {}, {"down": (CALLING_PRE, CALLING_POST + (least(-1, (name("gives"), 1)),))})

    def test_contracts_rise(self):
        contracts = {"top": (CALLING_PRE, ()), "down": (CALLING_PRE, CALLING_POST)}
        paper = self.shown(CALLING, "top", CALLING_PRE, CALLING_CLAIMS, {}, contracts)
        self.assertEqual([contract[0] for contract in paper[3]], ["down", "top"])
        # One that is not called, and fails.
        self.fails(CALLING, "top", CALLING_PRE, CALLING_CLAIMS, {}, {"top": ((), ()), "down": self.CONTRACTS["down"]})

    def test_one_another(self):
        program = made("""
            function even num n num
            if same var n 0
                give 1
            else
                call n odd 1 sub var n 1
                give var n
            end
            end
            function odd num n num
            if same var n 0
                give 0
            else
                call n even 1 sub var n 1
                give var n
            end
            end
            function ask num n num
            local q row
            call n even 1 var n
            let q rows 2 5 6
            give at var q var n
            end
        """)
        pre = (least(0, (name("n"), 1)),)
        truth = between(ZERO, name("gives"), (1, ()))
        self.shown(program, "ask", pre, (("breaks", "ask", 2, "range"),), {}, {"odd": (pre, truth), "even": (pre, truth)})
        # One of both is enough: the other is walked into.
        self.shown(program, "ask", pre, (("breaks", "ask", 2, "range"),), {}, {"even": (pre, truth)})
        self.shown(program, "ask", pre, (("breaks", "ask", 2, "range"),), {}, {"odd": (pre, truth)})
        self.fails(program, "ask", pre, (("breaks", "ask", 2, "range"),), {}, {})
        self.fails(program, "ask", pre, (("breaks", "ask", 2, "range"),), {}, {"even": (pre, truth[1:]), "odd": (pre, truth)})
        self.fails(program, "ask", (), (), {}, {"odd": (pre, truth), "even": (pre, truth)})
        # A claim within functions that contracts speak of.
        self.fails(program, "ask", pre, (("line", "odd", 1),), {}, {"odd": (pre, truth), "even": (pre, truth)})

    def test_walked_into(self):
        program = made("""
            record pair a num b row
            function f num x num q row
            local p pair
            call p split 2 var x var q
            say ok not less of a var p 0
            give at of b var p of a var p
            end
            function split pair x num q row
            local p pair
            let p with b var p more var q 7
            if less var x 0
                give var p
            else
            end
            if less var x len var q
                give new pair 2 var x var q
            else
            end
            give with a var p len var q
            end
        """)
        claims = (("breaks", "f", 1, "ok"), ("breaks", "f", 2, "range"))
        pre = (least(0, (LEN_Q, 1)),)
        paper = self.shown(program, "f", pre, claims, {}, {})
        self.assertIn(("into", ()), paper[4])
        self.fails(program, "f", (), claims, {}, {})
        # Functions that end by themselves, one within another, walked into more than once.
        program = made("""
            function f num x num
            call x g 1 var x
            call x g 1 add 1 var x
            say one same var x 0
            end
            function g num x num
            call x h 1 var x
            end
            function h num x num
            let x 3
            end
        """)
        self.shown(program, "f", (), (("breaks", "f", 2, "one"),), {}, {})

    def test_a_while_over_calls(self):
        program = made("""
            function f num n num
            local i num
            while less var i var n
                call i next 1 var i
            end
            say end same var i var n
            give var i
            end
            function next num k num
            give add var k 1
            end
        """)
        n, i = name("n"), name("i")
        pre = (least(0, (n, 1)),)
        kept = {("f", 0): between(ZERO, i, form(0, (n, 1))) + same(i, ROUNDS)}
        claims = (("rounds", "f", 0, form(0, (n, 1))), ("breaks", "f", 2, "end"))
        self.shown(program, "f", pre, claims, kept, {}, 120)
        contract = {"next": ((), between(form(1, (name("k"), 1)), name("gives"), form(1, (name("k"), 1))))}
        self.shown(program, "f", pre, claims, kept, contract, 120)
        self.fails(program, "f", pre, claims, kept, {"next": ((), contract["next"][1][:1])})

    def test_a_while_in_a_function_called(self):
        program = made("""
            function f num n num
            call n count 1 var n
            say up not less var n 0
            give var n
            end
            function count num n num
            local i num
            while less var i var n
                let i add 1 var i
            end
            give var i
            end
        """)
        kept = {("count", 0): (least(0, (name("i"), 1)), ) + same(name("i"), ROUNDS)}
        claims = (("breaks", "f", 1, "up"), ("rounds", "count", 0, form(0, (name("n"), 1))))
        self.shown(program, "f", (), claims, kept, {}, 120)
        post = (least(0, (name("gives"), 1)),)
        self.shown(program, "f", (), claims, kept, {"count": ((), post)}, 120)
        self.fails(program, "f", (), claims, {}, {"count": ((), post)})
        self.fails(program, "f", (), claims, kept, {"count": ((), ())})


if __name__ == "__main__":
    unittest.main()
