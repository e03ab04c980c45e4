"""States, what has to be shut, nodes, and expressions that ask (points 56 to 59)."""

import copy
import unittest

from everyfork.walking import first_state, has_to_be_shut, planned
from tests.formed import form, least
from tests.samples import THINGS
from tests.walked import made, name, was

ZERO, VOID = (0, ()), ("rows", ())
PROGRAM = made("""
    record pair a num b row
    function f num x num q row
    local i num
    local p pair
    let i at var q add var x 1
    say low less var i 10
    if or same var i 3 less var x 0
        let i div 2 var i
    else
        call i g 2 var x at var q 0
    end
    while less var i len var q
        let q put var q var i var x
        if less var x 0
            call i g 2 var i var x
        else
            let i add var i 1
        end
    end
    let p new pair 2 var i var q
    give at of b var p of a var p
    end
    function g num y num z num
    local o num
    let o add var y var z
    give at rows 2 var o var y var z
    end
    function h pair
    end
    function none num
    local p pair
    call p h 0
    end
    function twice pair
    local n num
    local p pair
    call n none 0
    call p h 0
    end
""")


def number(k):
    """The unknown number k alone."""
    return form(0, (("n", k), 1))


def at(row, place):
    return ("at", row, place)


def lines(*numbers):
    return tuple(("line", k) for k in numbers)


X, Q = number(0), ("r", 1)
AHEAD = (least(7, (("n", 0), 1)),)
LEN = ("len", Q)


def frame_f(tasks, i=ZERO, q=Q, x=X, p=(ZERO, VOID), target=None):
    """A frame of f."""
    return ("f", (("x", (x,)), ("q", (q,)), ("i", (i,)), ("p", p)), tasks, target)


def frame_g(tasks, o=ZERO, y=X, z=ZERO, target="i"):
    """A frame of g."""
    return ("g", (("y", (y,)), ("z", (z,)), ("o", (o,))), tasks, target)


def state(*frames, facts=AHEAD, count=2, shut=False):
    return (tuple(frames), tuple(facts), count, shut)


class Planned(unittest.TestCase):
    """What nodes have to refute and lay; each test tells it all."""

    def told(self, ahead, node, lists, states, claims=(), contracts=(), post=(), program=PROGRAM):
        before = copy.deepcopy((program, claims, contracts, post, ahead, node))
        told = planned(program, claims, contracts, post, ahead, node)
        self.assertIs(type(told), tuple)
        self.assertEqual(told[0], [list(one) for one in lists], node)
        self.assertEqual(told[1], list(states), node)
        self.assertTrue(type(told[0]) is type(told[1]) is list and all(type(one) is list for one in told[0]))
        # What is told is the asker's own, and what was handed in stays.
        for one in told[0]:
            one.append(None)
        told[0].append(None)
        told[1].append(None)
        self.assertEqual((program, claims, contracts, post, ahead, node), before)
        self.assertEqual(planned(program, claims, contracts, post, ahead, node), ([list(one) for one in lists], list(states)))
        # Refs are any tuple, whatever stands in it; any other thing is none.
        if node[0] not in ("split", "fork"):
            for refs in ((None,), (1, (2,), [3]), ((), ())):
                self.assertEqual(planned(program, claims, contracts, post, ahead, node[:-1] + (refs,))[1], list(states))
            for refs in ([], None, 0, "", True):
                self.assertIsNone(planned(program, claims, contracts, post, ahead, node[:-1] + (refs,)))
        for longer in (node + ((),), node[:-1], list(node)):
            self.assertIsNone(planned(program, claims, contracts, post, ahead, longer))

    def wrong(self, ahead, node, claims=(), contracts=(), post=(), program=PROGRAM):
        self.assertIsNone(planned(program, claims, contracts, post, ahead, node), node)


class First(unittest.TestCase):
    def test_params_and_locals(self):
        pre = (least(3, (name("x"), 2)), ("each", name("q"), ZERO, form(0, (("len", name("q")), 1)), 1, 0, ZERO))
        before = copy.deepcopy(pre)
        told = first_state(PROGRAM, "f", pre)
        facts = (least(3, (("n", 0), 2)), ("each", Q, ZERO, form(0, (LEN, 1)), 1, 0, ZERO))
        self.assertEqual(told, state(frame_f(lines(0, 1, 2, 5, 10, 11)), facts=facts))
        self.assertEqual(pre, before)

    def test_without_params_or_lines(self):
        self.assertEqual(first_state(PROGRAM, "h", ()), state(("h", (), (), None), facts=(), count=0))
        terms = (("n", (ZERO,)), ("p", (ZERO, VOID)))
        self.assertEqual(first_state(PROGRAM, "twice", ()), state(("twice", terms, lines(0, 1), None), facts=(), count=0))
        self.assertEqual(first_state(PROGRAM, "twice", (least(-1),)), state(("twice", terms, lines(0, 1), None), facts=(least(-1),), count=0))

    def test_records_and_texts(self):
        program = made("""
            record pair a num b text
            record two one pair two pair
            function f num t text w two n num
            local u text
            local v two
            give var n
            end
        """)
        told = first_state(program, "f", (least(0, (("len", name("w", "two", "b")), 1), (name("n"), 1)),))
        terms = (("t", (("t", 0),)), ("w", (number(1), ("t", 2), number(3), ("t", 4))), ("n", (number(5),)), ("u", (VOID,)), ("v", (ZERO, VOID) * 2))
        self.assertEqual(told, state(("f", terms, lines(0), None), facts=(least(0, (("len", ("t", 4)), 1), (("n", 5), 1)),), count=6))


class Shut(unittest.TestCase):
    def test_claimed_lines(self):
        for claims in ((), (("line", "f", 1),), (("line", "g", 5),), (("way", "f", 5, True), ("way", "f", 5, False)), (("breaks", "f", 5, "range"),),
                       (("rounds", "f", 5, ZERO),)):
            self.assertIs(has_to_be_shut(claims, state(frame_f(lines(5, 1)))), False)
        self.assertIs(has_to_be_shut((("line", "f", 1), ("line", "f", 5)), state(frame_f(lines(5, 1)))), True)

    def test_of_the_last_frame_alone(self):
        inner = state(frame_f(lines(10)), frame_g(lines(1)))
        self.assertIs(has_to_be_shut((("line", "f", 10), ("line", "f", 1), ("line", "g", 10)), inner), False)
        self.assertIs(has_to_be_shut((("line", "g", 1),), inner), True)

    def test_shut_states(self):
        self.assertIs(has_to_be_shut((), state(frame_f(lines(5)), shut=True)), True)
        self.assertIs(has_to_be_shut((), state(frame_f(()), shut=True)), True)
        self.assertIs(has_to_be_shut((), state(frame_f((("kept", 5, (), X, ()),)), shut=True)), True)

    def test_ends(self):
        claims = tuple(("line", "f", k) for k in range(12))
        self.assertIs(has_to_be_shut(claims, state(frame_f(()))), False)
        self.assertIs(has_to_be_shut(claims, state(frame_f((("kept", 5, (), X, ()),)))), False)


class NeverAndSplit(Planned):
    def test_never(self):
        for tasks in (lines(0), lines(1), lines(2), lines(4), lines(5), lines(11), (), (("kept", 5, (), X, ()),)):
            for shut in (False, True):
                self.told(state(frame_f(tasks), shut=shut), ("never", ()), [AHEAD], [])
        self.told(state(frame_f(lines(3)), facts=()), ("never", ()), [()], [], claims=(("line", "f", 3),))
        self.told(state(frame_f(lines(3)), frame_g(lines(0))), ("never", ()), [AHEAD], [])

    def test_split(self):
        one, other = form(2, (("n", 0), 3), (LEN, -1)), form(-3, (("n", 0), -3), (LEN, 1))
        for frames in ((frame_f(lines(5)),), (frame_f(()),), (frame_f(lines(4)), frame_g(lines(1))), (frame_f((("kept", 5, (), X, ()),)),)):
            for shut in (False, True):
                told = [state(*frames, facts=AHEAD + (("least", form),), shut=shut) for form in (one, other)]
                self.told(state(*frames, shut=shut), ("split", one), [], told)
                self.told(state(*frames, shut=shut), ("split", one), [], told, claims=(("line", "f", 5),))

    def test_no_split(self):
        ahead = state(frame_f(lines(5)))
        deep = X
        for _ in range(5):
            deep = form(0, (("div", deep, 2), 1))
        self.told(ahead, ("split", deep), [], [state(frame_f(lines(5)), facts=AHEAD + (("least", one),)) for one in (deep, form(-1, (deep[1][0][0], -1)))])
        for thing in (form(0, (name("x"), 1)), form(0, (was("x"), 1)), form(0, (("rounds",), 1)), form(0, (("len", name("q")), 1)),
                      number(2), number(7), form(0, (("n", 1), 1), (("n", 2), 1)), form(0, (("len", ("r", 2)), 1)),
                      form(0, (at(Q, number(2)), 1)), form(0, (("len", ("t", 3)), 1)), form(0, (("div", deep, 2), 1)), ("least", X)) + THINGS:
            self.wrong(ahead, ("split", thing))
        self.told(ahead, ("split", number(1)), [], [state(frame_f(lines(5)), facts=AHEAD + (one,)) for one in (least(0, (("n", 1), 1)), least(-1, (("n", 1), -1)))])


class New(Planned):
    def test_a_number(self):
        specs = (least(0, (name("i"), 1)), least(5, (name("i"), -1), (name("x"), 2)))
        ahead = state(frame_f(lines(5), i=(4, ())), count=6)
        lists = [AHEAD + (least(-5),), AHEAD + (least(-2, (("n", 0), -2)),)]
        told = state(frame_f(lines(5), i=number(6)), facts=AHEAD + (least(0, (("n", 6), 1)), least(5, (("n", 6), -1), (("n", 0), 2))), count=7)
        self.told(ahead, ("new", "i", specs, ()), lists, [told])
        self.told(ahead, ("new", "i", specs, ()), lists, [told], claims=(("breaks", "f", 1, "low"), ("rounds", "f", 5, ZERO)))

    def test_a_row_and_an_each(self):
        spec = ("each", name("q"), ZERO, form(0, (name("i"), 1)), 1, 0, ZERO)
        q = ("more", Q, X)
        k = ("n", 5)
        place = at(q, form(0, (k, 1)))
        lists = [AHEAD + (least(0, (k, 1)), least(3, (k, -1)), least(0, (k, 1)), least(0, (LEN, 1), (k, -1)), least(-1, (place, -1)))]
        told = state(frame_f(lines(5), i=(4, ()), q=("r", 5)), facts=AHEAD + (("each", ("r", 5), ZERO, (4, ()), 1, 0, ZERO),), count=6)
        self.told(state(frame_f(lines(5), i=(4, ()), q=q), count=5), ("new", "q", (spec,), ()), lists, [told])

    def test_a_record(self):
        told = state(frame_f(lines(10), p=(number(2), ("r", 3))), facts=AHEAD + (least(0, (("n", 2), 1), (("len", ("r", 3)), 1)),), count=4)
        spec = least(0, (name("p", "a"), 1), (("len", name("p", "b")), 1))
        self.told(state(frame_f(lines(10))), ("new", "p", (spec,), ()), [AHEAD + (least(-1),)], [told])

    def test_without_specs_anywhere(self):
        kept = (("kept", 5, (), X, ()),)
        for tasks in (lines(0), lines(4), (), kept):
            self.told(state(frame_f(tasks)), ("new", "x", (), ()), [], [state(frame_f(tasks, x=number(2)), count=3)])
        self.told(state(frame_f(lines(5)), frame_g(lines(0))), ("new", "z", (), ()), [], [state(frame_f(lines(5)), frame_g(lines(0), z=number(2)), count=3)])

    def test_no_variable_or_spec(self):
        ahead = state(frame_f(lines(5)), frame_g(lines(0)))
        for x in ("x", "i", "p", "gives", "", None, 0, ("y",), ["y"], "g", ("name", ("y",))):
            self.wrong(ahead, ("new", x, (), ()))
        for specs in ([], None, 0, least(0), (None,), ([],), [least(0)], (least(0), 3), (least(0, (name("x"), 1)),), (least(0, (was("y"), 1)),),
                      (least(0, (("rounds",), 1)),), (least(0, (name("gives"), 1)),), (least(0, (("n", 0), 1)),), (least(0, (("len", name("y")), 1)),)):
            self.wrong(ahead, ("new", "y", specs, ()))
        self.told(ahead, ("new", "y", (least(0),), ()), [AHEAD + (least(-1),)], [state(frame_f(lines(5)), frame_g(lines(0), y=number(2)), facts=AHEAD + (least(0),), count=3)])

    def test_where_it_has_to_be_shut(self):
        self.wrong(state(frame_f(lines(5)), shut=True), ("new", "x", (), ()))
        self.wrong(state(frame_f(()), shut=True), ("new", "x", (), ()))
        self.wrong(state(frame_f(lines(5))), ("new", "x", (), ()), claims=(("line", "f", 5),))


class Do(Planned):
    ASKED = (form(1, (("n", 0), 1)), form(-2, (LEN, 1), (("n", 0), -1)))
    NOT = (form(-2, (("n", 0), -1)), form(1, (LEN, -1), (("n", 0), 1)))

    def test_a_let_that_asks(self):
        ahead = state(frame_f(lines(0, 1)))
        i = form(0, (at(Q, form(1, (("n", 0), 1))), 1))
        told = state(frame_f(lines(1), i=i), facts=AHEAD + tuple(("least", one) for one in self.ASKED))
        self.told(ahead, ("do", ()), [], [told])
        self.told(ahead, ("do", ()), [], [told], claims=(("breaks", "f", 6, "range"), ("breaks", "g", 0, "range"), ("line", "f", 1)))
        lists = [AHEAD + (("least", self.NOT[0]),), AHEAD + (("least", self.ASKED[0]), ("least", self.NOT[1]))]
        self.told(ahead, ("do", ()), lists, [told], claims=(("breaks", "f", 0, "range"),))

    def test_a_let_that_asks_nothing(self):
        told = state(frame_f(lines(5), i=form(0, (("div", X, 2), 1))))
        self.told(state(frame_f(lines(3, 5), i=X)), ("do", ()), [], [told])
        self.told(state(frame_f(lines(10), i=X)), ("do", ()), [], [state(frame_f((), i=X, p=(X, Q)))])

    def test_a_put(self):
        told = state(frame_f(lines(7), i=X, q=("put", Q, X, X)), facts=AHEAD + (least(0, (("n", 0), 1)), least(-1, (LEN, 1), (("n", 0), -1))))
        self.told(state(frame_f(lines(6, 7), i=X)), ("do", ()), [], [told])

    def test_asking_twice(self):
        program = made("""
            function f num x num q row
            let x add at var q at var q var x len put var q 3 var x
            end
        """)
        terms = lambda x: (("x", (x,)), ("q", (Q,)))
        inner = form(0, (at(Q, X), 1))
        asked = (form(0, (("n", 0), 1)), form(-1, (LEN, 1), (("n", 0), -1)), inner, form(-1, (LEN, 1), (at(Q, X), -1)),
                 (3, ()), form(-4, (LEN, 1)))
        whole = form(0, (at(Q, inner), 1), (LEN, 1))
        lists = [AHEAD + tuple(("least", one) for one in asked[:k]) + (("least", (-1 - asked[k][0], tuple((thing, -often) for thing, often in asked[k][1]))),)
                 for k in range(6)]
        ahead = state(("f", terms(X), lines(0), None))
        told = state(("f", terms(whole), (), None), facts=AHEAD + tuple(("least", one) for one in asked))
        self.told(ahead, ("do", ()), lists, [told], claims=(("breaks", "f", 0, "range"),), program=program)
        self.told(ahead, ("do", ()), [], [told], program=program)

    def test_a_say(self):
        ahead = state(frame_f(lines(1, 5), i=X))
        told = state(frame_f(lines(5), i=X), facts=AHEAD + (least(9, (("n", 0), -1)),))
        self.told(ahead, ("do", ()), [], [told])
        self.told(ahead, ("do", ()), [], [told], claims=(("breaks", "g", 1, "low"), ("breaks", "f", 0, "range")))
        self.told(ahead, ("do", ()), [AHEAD + (least(-10, (("n", 0), 1)),)], [told], claims=(("line", "f", 5), ("breaks", "f", 1, "low")))

    def test_a_say_of_alternatives(self):
        program = made("function f num x num\nsay one not same var x 3\nsay two same var x 3\nend")
        frame = lambda *tasks: ("f", (("x", (X,)),), lines(*tasks), None)
        above, below, same = (least(-4, (("n", 0), 1)),), (least(2, (("n", 0), -1)),), (least(-3, (("n", 0), 1)), least(3, (("n", 0), -1)))
        self.told(state(frame(0, 1)), ("do", ()), [AHEAD + same], [state(frame(1), facts=AHEAD + one) for one in (above, below)], claims=(("breaks", "f", 0, "one"),), program=program)
        self.told(state(frame(1)), ("do", ()), [AHEAD + above, AHEAD + below], [state(frame(), facts=AHEAD + same)], claims=(("breaks", "f", 1, "two"),), program=program)
        self.told(state(frame(1)), ("do", ()), [], [state(frame(), facts=AHEAD + same)], claims=(("breaks", "f", 0, "one"),), program=program)

    def test_a_give_in_another_frame(self):
        o = form(0, (("n", 0), 2))
        row = ("rows", (o, X))
        ahead = state(frame_f(lines(5)), frame_g(lines(1), o=o, z=X))
        asked = (least(0, (("n", 0), 1)), least(1, (("n", 0), -1)))
        told = state(frame_f(lines(5), i=form(0, (at(row, X), 1))), facts=AHEAD + asked)
        self.told(ahead, ("do", ()), [], [told])
        self.told(ahead, ("do", ()), [AHEAD + (least(-1, (("n", 0), -1)),), AHEAD + asked[:1] + (least(-2, (("n", 0), 1)),)], [told], claims=(("breaks", "g", 1, "range"),))
        # A plain place of a row that is there: what is asked is plain too.
        told = state(frame_f(lines(5), i=X), facts=AHEAD + (least(1), least(0)))
        self.told(state(frame_f(lines(5)), frame_g(lines(1), o=o, z=(1, ()))), ("do", ()), [], [told])

    def test_give_ends_frames_behind_it(self):
        ahead = state(frame_f(lines(5)), frame_g((), target="i"), frame_g(lines(1), o=X, target="z"))
        told = state(frame_f(lines(5)), facts=AHEAD + (least(0), least(1)))
        self.told(ahead, ("do", ()), [], [told])

    def test_where_there_is_none(self):
        for tasks in (lines(2), lines(4), lines(5), lines(7), lines(11), (), (("kept", 5, (), X, ()),)):
            self.wrong(state(frame_f(tasks)), ("do", ()))
        self.wrong(state(frame_f(lines(3)), shut=True), ("do", ()))
        self.wrong(state(frame_f(lines(3))), ("do", ()), claims=(("line", "f", 3),))
        self.wrong(state(frame_f(lines(3)), frame_g(lines(1)), shut=True), ("do", ()))

    def test_beyond_the_bounds(self):
        deep = X
        for _ in range(4):
            deep = form(0, (("div", deep, 2), 1))
        self.told(state(frame_f(lines(3), i=deep)), ("do", ()), [], [state(frame_f((), i=form(0, (("div", deep, 2), 1))))])
        self.wrong(state(frame_f(lines(3), i=form(0, (("div", deep, 2), 1)))), ("do", ()))
        # A fact that is asked beyond them, the term being within.
        program = made("function f num q row x num\nlet x len put var q var x 0\nend")
        frame = lambda x, *tasks: ("f", (("q", (Q,)), ("x", (x,))), lines(*tasks), None)
        wide = ("at", ("rows", tuple((k, ()) for k in range(194))), X)
        place = form(0, (wide, 1))
        narrow = ("at", ("rows", wide[1][1][1:]), X)
        told = state(frame(form(0, (LEN, 1))), facts=AHEAD + (least(0, (narrow, 1)), least(-1, (LEN, 1), (narrow, -1))))
        self.told(state(frame(form(0, (narrow, 1)), 0)), ("do", ()), [], [told], program=program)
        self.wrong(state(frame(place, 0)), ("do", ()), program=program)


class Gave(Planned):
    def test_a_give(self):
        p = (X, Q)
        ahead = state(frame_f(lines(11), p=p))
        asked = (least(0, (("n", 0), 1)), least(-1, (LEN, 1), (("n", 0), -1)))
        lists = [AHEAD + (least(-1, (("n", 0), -1)),), AHEAD + asked[:1] + (least(0, (LEN, -1), (("n", 0), 1)),)]
        self.told(ahead, ("gave", ()), [], [])
        self.told(ahead, ("gave", ()), lists, [], claims=(("breaks", "f", 11, "range"),))
        gives = at(Q, X)
        post = (least(0, (name("gives"), 1), (name("x"), -2)), least(0, (("len", name("q")), 1)))
        shown = [AHEAD + asked + (least(-1, (gives, -1), (("n", 0), 2)),), AHEAD + asked + (least(-1, (LEN, -1)),)]
        self.told(ahead, ("gave", ()), shown, [], post=post)
        self.told(ahead, ("gave", ()), lists + shown, [], claims=(("breaks", "f", 11, "range"),), post=post)

    def test_params_as_they_were_handed_in(self):
        ahead = state(frame_f(lines(11), x=number(5), q=("r", 6), p=(number(7), ("r", 8))), count=9)
        asked = (least(0, (("n", 7), 1)), least(-1, (("len", ("r", 8)), 1), (("n", 7), -1)))
        post = (least(0, (name("gives"), 1), (name("x"), 1), (("len", name("q")), 1)),)
        self.told(ahead, ("gave", ()), [AHEAD + asked + (least(-1, (at(("r", 8), number(7)), -1), (("n", 0), -1), (LEN, -1)),)], [], post=post)

    def test_an_end(self):
        post = (least(3, (name("gives"), 1), (name("x"), 1)),)
        self.told(state(frame_f((), i=(4, ()))), ("gave", ()), [AHEAD + (least(-4, (("n", 0), -1)),)], [], post=post)
        self.told(state(frame_f(())), ("gave", ()), [], [])
        post = (("each", name("gives", "b"), ZERO, ZERO, 1, 0, form(0, (name("gives", "a"), 1))),)
        k = ("n", 0)
        shown = [(least(0, (k, 1)), least(-1, (k, -1)), least(0, (k, 1)), least(-1, (k, -1)), least(-1, (at(VOID, number(0)), -1)))]
        self.told(state(("h", (), (), None), facts=(), count=0), ("gave", ()), shown, [], post=post)

    def test_where_there_is_none(self):
        for tasks in (lines(0), lines(1), lines(2), lines(4), lines(5), (("kept", 5, (), X, ()),)):
            self.wrong(state(frame_f(tasks)), ("gave", ()))
        self.wrong(state(frame_f(()), frame_g(lines(1))), ("gave", ()))
        self.wrong(state(frame_f(()), shut=True), ("gave", ()))
        self.wrong(state(frame_f(lines(11)), shut=True), ("gave", ()))
        self.wrong(state(frame_f(lines(11))), ("gave", ()), claims=(("line", "f", 11),))


class Calls(Planned):
    ASKED = (least(0), least(-1, (LEN, 1)))
    CLAIM = (("breaks", "f", 4, "range"),)
    LISTS = [AHEAD + (least(-1),), AHEAD + (least(0), least(0, (LEN, -1)))]
    Z = form(0, (at(Q, ZERO), 1))

    def test_into(self):
        ahead = state(frame_f(lines(4, 5)))
        told = state(frame_f(lines(5)), frame_g(lines(0, 1), z=self.Z), facts=AHEAD + self.ASKED)
        self.told(ahead, ("into", ()), [], [told])
        self.told(ahead, ("into", ()), self.LISTS, [told], claims=self.CLAIM)
        # Whether there is a contract or not.
        self.told(ahead, ("into", ()), [], [told], contracts=(("g", (), (), ()),))

    def test_into_from_left_to_right(self):
        program = made("function f num q row\nlocal x num\ncall x g 2 at var q 1 at var q 2\nend\nfunction g num a num b num\nend")
        ahead = state(("f", (("q", (("r", 0),)), ("x", (X,))), lines(0), None), facts=(), count=1)
        asked = (least(1), least(-2, (("len", ("r", 0)), 1)), least(2), least(-3, (("len", ("r", 0)), 1)))
        told = state(("f", (("q", (("r", 0),)), ("x", (ZERO,))), (), None), facts=asked, count=1)
        lists = [(least(-2),), asked[:1] + (least(1, (("len", ("r", 0)), -1)),), asked[:2] + (least(-3),), asked[:3] + (least(2, (("len", ("r", 0)), -1)),)]
        self.told(ahead, ("into", ()), lists, [told], claims=(("breaks", "f", 0, "range"),), program=program)
        self.told(ahead, ("into", ()), [], [told], program=program)

    def test_into_what_ends_by_itself(self):
        terms = lambda n, p: (("n", (n,)), ("p", p))
        ahead = state(("twice", terms((5, ()), (X, Q)), lines(1), None))
        self.told(ahead, ("into", ()), [], [state(("twice", terms((5, ()), (ZERO, VOID)), (), None))])
        # One within another: h ends, and none with it.
        outer = ("twice", terms((5, ()), (X, Q)), lines(1), None)
        inner = ("none", (("p", (X, Q)),), lines(0), "n")
        self.told(state(outer, inner), ("into", ()), [], [state(("twice", terms(ZERO, (X, Q)), lines(1), None))])
        # All but the first go.
        outer = ("twice", terms((5, ()), (X, Q)), (), None)
        self.told(state(outer, inner), ("into", ()), [], [state(("twice", terms(ZERO, (X, Q)), (), None))])

    def test_into_itself(self):
        program = made("function f num x num\ncall x f 1 var x\nend")
        frame = lambda tasks, target: ("f", (("x", (X,)),), tasks, target)
        self.told(state(frame(lines(0), None)), ("into", ()), [], [state(frame((), None), frame(lines(0), "x"))], program=program)

    def test_by(self):
        ahead = state(frame_f(lines(4, 5)))
        pre = (least(0, (name("z"), 1)), least(4, (name("y"), 1)))
        post = (least(0, (name("gives"), 1), (name("y"), -1), (name("z"), -1)), least(7, (name("gives"), -1)))
        contracts = (("h", (), (), ()), ("g", pre, post, ()))
        place = self.Z[1][0][0]
        shown = [AHEAD + self.ASKED + (least(-1, (place, -1)),), AHEAD + self.ASKED + (least(-5, (("n", 0), -1)),)]
        more = (least(0, (("n", 2), 1), (("n", 0), -1), (place, -1)), least(7, (("n", 2), -1)))
        told = state(frame_f(lines(5), i=number(2)), facts=AHEAD + self.ASKED + more, count=3)
        self.told(ahead, ("by", ()), shown, [told], contracts=contracts)
        self.told(ahead, ("by", ()), self.LISTS + shown, [told], contracts=contracts, claims=self.CLAIM)

    def test_by_gives_a_record(self):
        outer = ("twice", (("n", (ZERO,)), ("p", (X, Q))), lines(1), None)
        post = (least(0, (name("gives", "a"), 1), (("len", name("gives", "b")), 1)),)
        told = state(("twice", (("n", (ZERO,)), ("p", (number(2), ("r", 3)))), (), None), facts=AHEAD + (least(0, (("n", 2), 1), (("len", ("r", 3)), 1)),), count=4)
        self.told(state(outer), ("by", ()), [], [told], contracts=(("h", (), post, ()),))

    def test_where_there_is_none(self):
        both = (("g", (), (), ()), ("h", (), (), ()))
        for node in (("into", ()), ("by", ())):
            for tasks in (lines(0), lines(1), lines(2), lines(5), lines(11), (), (("kept", 5, (), X, ()),)):
                self.wrong(state(frame_f(tasks)), node, contracts=both)
            self.wrong(state(frame_f(lines(4)), shut=True), node, contracts=both)
            self.wrong(state(frame_f(lines(4))), node, contracts=both, claims=(("line", "f", 4),))
        for contracts in ((), both[1:], (("f", (), (), ()),)):
            self.wrong(state(frame_f(lines(4))), ("by", ()), contracts=contracts)

    def test_beyond_the_bounds(self):
        deep = X
        for _ in range(5):
            deep = form(0, (("div", deep, 2), 1))
        program = made("function f num x num\ncall x g 1 div 2 var x\nend\nfunction g num y num\ngive var y\nend")
        frame = lambda x, *tasks: ("f", (("x", (x,)),), lines(*tasks), None)
        for node in (("into", ()), ("by", ())):
            self.assertIsNotNone(planned(program, (), (("g", (), (), ()),), (), state(frame(deep[1][0][0][1], 0)), node))
        self.wrong(state(frame(deep, 0)), ("into", ()), program=program)
        # By a contract the term itself comes nowhere; what is added of it may be beyond.
        self.told(state(frame(deep, 0)), ("by", ()), [], [state(frame(number(2)), count=3)], contracts=(("g", (), (), ()),), program=program)
        self.wrong(state(frame(deep, 0)), ("by", ()), contracts=(("g", (), (least(0, (name("y"), 1)),), ()),), program=program)


class Fork(Planned):
    SAME = (least(-3, (("n", 0), 1)), least(3, (("n", 0), -1)))
    ABOVE, BELOW = least(-4, (("n", 0), 1)), least(2, (("n", 0), -1))
    NEGATIVE, NOT = least(-1, (("n", 0), -1)), least(0, (("n", 0), 1))

    def test_an_if(self):
        ahead = state(frame_f(lines(2, 5, 10), i=X))
        one, two = frame_f(lines(3, 5, 10), i=X), frame_f(lines(4, 5, 10), i=X)
        ways = [(one, self.SAME), (one, (self.ABOVE, self.NEGATIVE)), (one, (self.BELOW, self.NEGATIVE)),
                (two, (self.ABOVE, self.NOT)), (two, (self.BELOW, self.NOT))]
        for claims, shut in (((), ()), ((("way", "f", 2, True),), (one,)), ((("way", "f", 2, False),), (two,)),
                             ((("way", "f", 2, False), ("way", "f", 2, True)), (one, two)), ((("way", "f", 5, True), ("way", "g", 2, True)), ())):
            told = [state(frame, facts=AHEAD + forms, shut=frame in shut) for frame, forms in ways]
            self.told(ahead, ("fork",), [], told, claims=claims)

    def test_a_while(self):
        i = number(0)
        ahead = state(frame_f(lines(5, 10), i=i))
        inside, outside = least(-1, (LEN, 1), (("n", 0), -1)), least(0, (LEN, -1), (("n", 0), 1))
        for claims, shut in (((), (False, False)), ((("way", "f", 5, True),), (True, False)), ((("way", "f", 5, False),), (False, True)),
                             ((("rounds", "f", 6, ZERO), ("rounds", "g", 5, ZERO)), (False, False))):
            told = [state(frame_f(lines(6, 7, 5, 10), i=i), facts=AHEAD + (inside,), shut=shut[0]),
                    state(frame_f(lines(10), i=i), facts=AHEAD + (outside,), shut=shut[1])]
            self.told(ahead, ("fork",), [], told, claims=claims)
        for claims in ((("rounds", "f", 5, ZERO),), (("way", "f", 5, True), ("rounds", "f", 5, X))):
            self.wrong(ahead, ("fork",), claims=claims)

    def test_what_ends_by_itself(self):
        program = made("function f num\nlocal i num\ncall i g 1 3\nend\nfunction g num y num\nif less var y 0\nelse\nend\nend")
        outer, done = ("f", (("i", (X,)),), (), None), ("f", (("i", (ZERO,)),), (), None)
        ahead = state(outer, ("g", (("y", (X,)),), lines(0), "i"))
        told = [state(done, facts=AHEAD + (self.NEGATIVE,), shut=True), state(done, facts=AHEAD + (self.NOT,))]
        self.told(ahead, ("fork",), [], told, claims=(("way", "g", 0, True),), program=program)

    def test_where_there_is_none(self):
        for tasks in (lines(0), lines(1), lines(4), lines(11), (), (("kept", 5, (), X, ()),)):
            self.wrong(state(frame_f(tasks)), ("fork",))
        for k in (2, 5):
            self.wrong(state(frame_f(lines(k)), shut=True), ("fork",))
            self.wrong(state(frame_f(lines(k))), ("fork",), claims=(("line", "f", k),))

    def test_beyond_the_bounds(self):
        program = made("function f num x num y num\nif less var x var y\nelse\nend\nend")
        frame = lambda one, other, *tasks: ("f", (("x", (one,)), ("y", (other,))), lines(*tasks), None)
        wide = lambda many, k: form(0, (("at", ("rows", tuple((k, ()) for _ in range(many))), X), 1))
        # Each alone is within the bounds; both together stand in one fact.
        self.assertIsNotNone(planned(program, (), (), (), state(frame(wide(95, 1), wide(96, 2), 0)), ("fork",)))
        self.wrong(state(frame(wide(96, 1), wide(96, 2), 0)), ("fork",), program=program)


class Keep(Planned):
    I = number(5)
    ROUNDS = ("n", 4)
    SPECS = (least(0, (name("i"), 1), (("rounds",), -1)), least(0, (("len", name("q")), 1), (("len", was("q")), -1), (was("x"), 1), (name("x"), -1)),
             ("each", name("q"), ZERO, form(0, (name("i"), 1)), 1, 0, ZERO))

    def test_keep(self):
        q = ("more", Q, X)
        ahead = state(frame_f(lines(5, 10), i=X, q=q))
        k = ("n", 2)
        lists = [AHEAD + (least(-1, (("n", 0), -1)),), AHEAD + (least(-1),),
                 AHEAD + (least(0, (k, 1)), least(-1, (("n", 0), 1), (k, -1)), least(0, (k, 1)), least(0, (LEN, 1), (k, -1)), least(-1, (at(q, number(2)), -1)))]
        # q and i are set in the body; x and p stay.
        new_q, new_i, length = ("r", 2), number(3), ("len", ("r", 2))
        more = AHEAD + (least(0, (self.ROUNDS, 1)), least(0, (("n", 3), 1), (self.ROUNDS, -1)), least(-1, (length, 1), (LEN, -1)),
                        ("each", new_q, ZERO, new_i, 1, 0, ZERO))
        task = ("kept", 5, self.SPECS, number(4), ahead[0][0][1])
        inside, outside = least(-1, (length, 1), (("n", 3), -1)), least(0, (length, -1), (("n", 3), 1))
        for claims, shut in (((), (False, False)), ((("way", "f", 5, True),), (True, False)), ((("way", "f", 5, False),), (False, True))):
            told = [state(frame_f(lines(6, 7) + (task,), i=new_i, q=new_q), facts=more + (inside,), count=5, shut=shut[0]),
                    state(frame_f(lines(10), i=new_i, q=new_q), facts=more + (outside,), count=5, shut=shut[1])]
            self.told(ahead, ("keep", self.SPECS, ()), lists, told, claims=claims)

    def test_rounds_claims(self):
        ahead = state(frame_f(lines(5, 10), i=X))
        specs = (least(0, (name("i"), 1)),)
        length = ("len", ("r", 2))
        more = AHEAD + (least(0, (self.ROUNDS, 1)), least(0, (("n", 3), 1)))
        inside, outside = least(-1, (length, 1), (("n", 3), -1)), least(0, (length, -1), (("n", 3), 1))
        task = ("kept", 5, specs, number(4), ahead[0][0][1])
        told = [state(frame_f(lines(6, 7) + (task,), i=number(3), q=("r", 2)), facts=more + (inside,), count=5),
                state(frame_f(lines(10), i=number(3), q=("r", 2)), facts=more + (outside,), count=5)]
        shown = [AHEAD + (least(-1, (("n", 0), -1)),)]
        # Bounds tell of the variables as they were when the while was come to: i was x.
        one = (("rounds", "f", 5, form(2, (("len", name("q")), 1), (name("i"), -3))), more + (inside, least(-2, (LEN, -1), (("n", 0), 3), (self.ROUNDS, 1))))
        two = (("rounds", "f", 5, (7, ())), more + (inside, least(-7, (self.ROUNDS, 1))))
        other = (("rounds", "g", 5, (7, ())), None)
        self.told(ahead, ("keep", specs, ()), shown + [one[1]], told, claims=(one[0],))
        self.told(ahead, ("keep", specs, ()), shown + [one[1], two[1]], told, claims=(one[0], other[0], two[0]))
        self.told(ahead, ("keep", specs, ()), shown + [two[1], one[1], two[1]], told, claims=(two[0], one[0], two[0]))

    def test_rounds_for_each_alternative(self):
        program = made("function f num x num\nwhile not same var x 3\nend\nend")
        frame = lambda tasks: ("f", (("x", (X,)),), tasks, None)
        rounds = ("n", 2)
        known = AHEAD + (least(0, (rounds, 1)),)
        above, below, same = (least(-4, (("n", 0), 1)),), (least(2, (("n", 0), -1)),), (least(-3, (("n", 0), 1)), least(3, (("n", 0), -1)))
        beyond = (least(0, (("n", 0), -1), (rounds, 1)),)
        task = ("kept", 0, (), number(2), (("x", (X,)),))
        told = [state(frame((task,)), facts=known + above, count=3), state(frame((task,)), facts=known + below, count=3), state(frame(()), facts=known + same, count=3)]
        self.told(state(frame(lines(0))), ("keep", (), ()), [known + above + beyond, known + below + beyond], told,
                  claims=(("rounds", "f", 0, form(0, (name("x"), 1))),), program=program)

    def test_what_a_body_sets(self):
        """By lets and by calls, at any depth; in the order of the variables."""
        program = made("""
            record pair a num b row
            function f num c num b pair a num
            local d num
            local e row
            while less var a 0
                if less var c 0
                    while less var a 0
                        call e g 0
                    end
                else
                    if less var a 0
                    else
                        let b with a var b 3
                    end
                end
                say ok less var d 0
            end
            let d 4
            end
            function g row
            local a num
            let a 3
            end
        """)
        terms = lambda b, e: (("c", (number(0),)), ("b", b), ("a", (number(3),)), ("d", (ZERO,)), ("e", (e,)))
        ahead = state(("f", terms((number(1), ("r", 2)), VOID), lines(0, 7), None), facts=(), count=4)
        now = terms((number(4), ("r", 5)), ("r", 6))
        task = ("kept", 0, (), number(7), ahead[0][0][1])
        rounds = least(0, (("n", 7), 1))
        told = [state(("f", now, lines(1, 6) + (task,), None), facts=(rounds, least(-1, (("n", 3), -1))), count=8),
                state(("f", now, lines(7), None), facts=(rounds, least(0, (("n", 3), 1))), count=8)]
        self.told(ahead, ("keep", (), ()), [], told, program=program)

    def test_in_another_frame(self):
        program = made("function f num\nlocal i num\ncall i g 1 3\nend\nfunction g num y num\nwhile less var y 0\nlet y 1\nend\nend")
        outer, done = ("f", (("i", (X,)),), (), None), ("f", (("i", (ZERO,)),), (), None)
        ahead = state(outer, ("g", (("y", (X,)),), lines(0), "i"))
        task = ("kept", 0, (), number(3), (("y", (X,)),))
        told = [state(outer, ("g", (("y", (number(2),)),), lines(1) + (task,), "i"), facts=AHEAD + (least(0, (("n", 3), 1)), least(-1, (("n", 2), -1))), count=4),
                state(done, facts=AHEAD + (least(0, (("n", 3), 1)), least(0, (("n", 2), 1))), count=4)]
        self.told(ahead, ("keep", (), ()), [], told, program=program)

    def test_kept(self):
        before = (("x", (X,)), ("q", (Q,)), ("i", ((9, ()),)), ("p", (ZERO, VOID)))
        specs = (least(0, (name("i"), 1), (("rounds",), -1), (was("i"), 2)), ("each", name("q"), ZERO, form(0, (("rounds",), 1)), 1, 0, ZERO))
        ahead = state(frame_f((("kept", 5, specs, number(4), before), ("line", 3)), i=number(3), q=("r", 2)), count=5)
        k = ("n", 5)
        lists = [AHEAD + (least(-18, (("n", 3), -1), (("n", 4), 1)),),
                 AHEAD + (least(0, (k, 1)), least(0, (("n", 4), 1), (k, -1)), least(0, (k, 1)), least(-1, (("len", ("r", 2)), 1), (k, -1)), least(-1, (at(("r", 2), number(5)), -1)))]
        self.told(ahead, ("kept", ()), lists, [])
        self.told(ahead, ("kept", ()), lists, [], claims=(("line", "f", 5), ("rounds", "f", 5, ZERO), ("way", "f", 5, True)))
        self.told(state(frame_f((("kept", 5, (), X, before),))), ("kept", ()), [], [])
        self.told(state(frame_f(lines(5)), frame_g((("kept", 5, (), X, ()),))), ("kept", ()), [], [])

    def test_where_there_is_none(self):
        task = ("kept", 5, (), X, ())
        for tasks in (lines(0), lines(1), lines(2), lines(4), lines(7), lines(11), (), (task,)):
            self.wrong(state(frame_f(tasks)), ("keep", (), ()))
        for tasks in (lines(0), lines(5), (), lines(5) + (task,)):
            self.wrong(state(frame_f(tasks)), ("kept", ()))
        for node in (("keep", (), ()), ("kept", ())):
            self.wrong(state(frame_f(lines(5)), shut=True), node)
            self.wrong(state(frame_f((task,)), shut=True), node)
            self.wrong(state(frame_f(lines(5))), node, claims=(("line", "f", 5),))
        for specs in ([], None, least(0), (3,), (least(0, (name("gives"), 1)),), (least(0, (name("q"), 1)),), (least(0, (("n", 0), 1)),), (least(0, (name("y"), 1)),)):
            self.wrong(state(frame_f(lines(5))), ("keep", specs, ()))

    def test_beyond_the_bounds(self):
        deep = form(0, (was("x"), 1))
        for _ in range(3):
            deep = form(0, (("div", deep, 2), 1))
        x = X
        for _ in range(2):
            x = form(0, (("div", x, 2), 1))
        node = ("keep", (("least", deep),), ())
        self.assertIsNotNone(planned(PROGRAM, (), (), (), state(frame_f(lines(5), x=x)), node))
        self.wrong(state(frame_f(lines(5), x=form(0, (("div", x, 2), 1)))), node)


class AnyThing(Planned):
    def test_any_plain_thing(self):
        states = [state(frame_f(tasks)) for tasks in (lines(0), lines(1), lines(2), lines(4), lines(5), lines(11), (), (("kept", 5, (), X, ()),))]
        heads = ("never", "split", "new", "do", "gave", "into", "by", "fork", "keep", "kept")
        things = list(THINGS) + [(head,) for head in heads if head != "fork"] + [[head, ()] for head in heads] + list(heads)
        things += [(head, (), (), (), ()) for head in heads] + [((head,), ()) for head in heads] + [("done", ()), (None, ()), ([], ()), ((), ())]
        things += [(head.upper(), ()) for head in heads] + [("fork", ()), ("new", "x", ()), ("keep", ()), ("do", (), ()), ("split", X, ())]
        for ahead in states:
            for thing in things:
                self.wrong(ahead, thing)


if __name__ == "__main__":
    unittest.main()
