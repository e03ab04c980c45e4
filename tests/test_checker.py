"""Papers and the small checker (points 55, 60 and 61)."""

import copy
import random
import unittest

from everyfork.checker import lets_by
from everyfork.errors import NoProgram
from everyfork.going import never
from everyfork.programs import right_program, spots_of
from everyfork.rooms import inputs
from everyfork.running import run
from everyfork.showing import shown_by
from tests.formed import form, least
from tests.samples import THINGS
from tests.walked import (ADDING, ADDING_CLAIMS, ADDING_KEPT, ADDING_PRE, CALLING, CALLING_CLAIMS, CALLING_POST, CALLING_PRE, bent,
                          broken_claims, made, name, some_inputs, was)

ZERO = (0, ())


def sums(*many):
    """A refutation by one sum."""
    return (("sum", many),)


# Whatever is handed in is 0 or more behind the if.
UP = made("""
    function f num x num
    if less var x 0
        let x 0
    else
    end
    say up not less var x 0
    end
    function g num y num
    local z row
    while less var y 3
        let y add var y 1
    end
    give at var z 0
    end
""")
UP_NODES = (("fork",), ("do", ()), ("do", (sums((1, 1)),)), ("gave", ()), ("do", (sums((0, 1), (1, 1)),)), ("gave", ()))
UP_PAPER = ("f", (), (("breaks", "f", 2, "up"),), (), UP_NODES)


class Checked(unittest.TestCase):
    def yes(self, program, paper):
        before = copy.deepcopy((program, paper))
        self.assertIs(lets_by(program, paper), True)
        self.assertEqual((program, paper), before)

    def no(self, program, *papers):
        for paper in papers:
            self.assertIs(lets_by(program, paper), False, paper)

    def changed(self, paper, place, thing):
        return paper[:place] + (thing,) + paper[place + 1:]


class Right(Checked):
    def test_one_function(self):
        self.yes(UP, UP_PAPER)

    def test_nothing_claimed(self):
        nodes = tuple(("do", ()) if node[0] == "do" else node for node in UP_NODES)
        self.yes(UP, ("f", (), (), (), nodes))
        self.no(UP, ("f", (), (), (), UP_NODES), ("f", (), UP_PAPER[2], (), nodes))

    def test_nodes_too_few_or_too_many(self):
        for many in range(len(UP_NODES)):
            self.no(UP, self.changed(UP_PAPER, 4, UP_NODES[:many]), self.changed(UP_PAPER, 4, UP_NODES[many + 1:]),
                    self.changed(UP_PAPER, 4, UP_NODES[:many] + UP_NODES[many + 1:]), self.changed(UP_PAPER, 4, UP_NODES[:many] + UP_NODES[many:many + 1] + UP_NODES[many:]))
        for node in UP_NODES + (("never", ()), ("never", (sums((0, 1)),)), None, (), ("split", ZERO)):
            self.no(UP, self.changed(UP_PAPER, 4, UP_NODES + (node,)), self.changed(UP_PAPER, 4, (node,) + UP_NODES))

    def test_nodes_in_another_order(self):
        for k in range(len(UP_NODES) - 1):
            told = list(UP_NODES)
            told[k], told[k + 1] = told[k + 1], told[k]
            self.no(UP, self.changed(UP_PAPER, 4, tuple(told)))

    def test_refs(self):
        for refs in ((), (sums((1, 1)), sums((1, 1))), ((),), (sums(),), (sums((0, 1)),), (sums((0, 1), (1, 1)),), (sums((2, 1)),), (sums((1, 0)),),
                     (sums((1, 1)) * 2,), (sums((1, 1)) + ((),),), (None,), (0,), ("sum",), ([("sum", ((1, 1),))],), [sums((1, 1))]):
            self.no(UP, self.changed(UP_PAPER, 4, UP_NODES[:2] + (("do", refs),) + UP_NODES[3:]))
        for refs in ((sums((1, 1)),), (sums((1, 2)),), ((("split", ZERO),) + sums((1, 1)) + sums((1, 5)),)):
            self.yes(UP, self.changed(UP_PAPER, 4, UP_NODES[:2] + (("do", refs),) + UP_NODES[3:]))
        for k in (1, 3, 5):
            self.no(UP, self.changed(UP_PAPER, 4, UP_NODES[:k] + ((UP_NODES[k][0], (sums((0, 1)),)),) + UP_NODES[k + 1:]))
            self.no(UP, self.changed(UP_PAPER, 4, UP_NODES[:k] + ((UP_NODES[k][0], ((),)),) + UP_NODES[k + 1:]))

    def test_f(self):
        for thing in ("g", "h", "", None, 0, ("f",), ["f"], "sum"):
            self.no(UP, self.changed(UP_PAPER, 0, thing))

    def test_pre(self):
        self.yes(UP, self.changed(UP_PAPER, 1, ()))
        shut = (("never", (sums((0, 1)),)),)
        self.yes(UP, ("f", (least(-1),), tuple(spots_of(UP)), (), shut))
        for pre in ([], None, 0, least(-1), [least(-1)], (least(-1), None), (least(-1), 0), (least(-1), ZERO), (least(-1), least(0, (("n", 0), 1))),
                    (least(-1), least(0, (name("y"), 1))), (least(-1), least(0, (("len", name("x")), 1))), (least(-1), least(0, (was("x"), 1))),
                    (least(-1), least(0, (("rounds",), 1))), (least(-1), least(0, (name("gives"), 1)))):
            self.no(UP, ("f", pre, (), (), shut))
        self.yes(UP, ("f", (least(-1), least(0, (name("x"), 1))), (), (), shut))
        self.no(UP, ("g", (least(-1), least(0, (name("z"), 1))), (), (), shut), ("g", (least(-1), least(0, (("len", name("z")), 1))), (), (), shut))

    def test_claims_by_kind(self):
        nodes = tuple(("do", ()) if node[0] == "do" else node for node in UP_NODES)
        for claim in spots_of(UP):
            if claim[1] == "g":
                self.yes(UP, ("f", (), (claim,), (), nodes))
                self.yes(UP, ("f", (), (claim, claim), (), nodes))
        for bound in (ZERO, form(4, (name("y"), -1)), form(0, (("len", name("z")), 1))):
            self.yes(UP, ("f", (), (("rounds", "g", 0, bound),), (), nodes))
        for claims in ([], None, 0, "line", ("line", "g", 0), [("line", "g", 0)], (["line", "g", 0],), (None,), (0,), ((),), ("line",), (("line",),),
                       (("line", "g"),), (("line", "g", 3),), (("line", "g", -1),), (("line", "g", True),), (("line", "g", 0, 0),), (("line", "h", 0),),
                       (("line", ["g"], 0),), (("way", "g", 0, 1),), (("way", "g", 0, 0),), (("way", "g", False, True),), (("way", "g", 0),),
                       (("way", "g", 1, True),), (("way", "g", 0, None),), (("way", "g", 0, "yes"),), (("breaks", "g", 2, "up"),), (("breaks", "g", 1, "range"),),
                       (("breaks", "f", 2, "range"),), (("breaks", "g", 2),), (("breaks", "g", 2, None),), (("breaks", "g", 2, "range"), None)):
            self.no(UP, ("f", (), claims, (), nodes))
        for claim in (("rounds", "g", 1, ZERO), ("rounds", "g", 2, ZERO), ("rounds", "f", 0, ZERO), ("rounds", "g", 3, ZERO), ("rounds", "g", -3, ZERO),
                      ("rounds", "g", False, ZERO), ("rounds", "h", 0, ZERO), ("rounds", "g", 0), ("rounds", "g", 0, ZERO, ZERO), ["rounds", "g", 0, ZERO],
                      ("rounds", "g", 0, 0), ("rounds", "g", 0, None), ("rounds", "g", 0, form(0, (name("x"), 1))), ("rounds", "g", 0, form(0, (name("z"), 1))),
                      ("rounds", "g", 0, form(0, (("n", 0), 1))), ("rounds", "g", 0, form(0, (("rounds",), 1))), ("rounds", "g", 0, form(0, (was("y"), 1))),
                      ("rounds", ["g"], 0, ZERO), ("rounds", "g", "0", ZERO), ("rounds", "g", 0, least(0)), ("round", "g", 0, ZERO), (None, "g", 0, ZERO),
                      ("way", "g", 0, ZERO), ("rounds", None, 0, ZERO)):
            self.no(UP, ("f", (), (claim,), (), nodes))

    def test_any_plain_thing(self):
        self.no(UP, *THINGS)
        self.no(UP, UP_PAPER + ((),), UP_PAPER[:4], list(UP_PAPER), (UP_PAPER,), UP_PAPER[4])
        for place in range(5):
            for thing in THINGS:
                if not (place in (1, 3) and thing == ()) and not (place == 2 and thing == ()):
                    self.no(UP, self.changed(UP_PAPER, place, thing))
        for place in range(len(UP_NODES)):
            for thing in THINGS:
                self.no(UP, self.changed(UP_PAPER, 4, UP_NODES[:place] + (thing,) + UP_NODES[place + 1:]))

    def test_a_line_a_way_and_a_split(self):
        program = made("function f num x num\nif less var x 5\nlet x 1\nelse\nlet x 2\nend\ngive var x\nend")
        pre = (least(-5, (name("x"), 1)),)
        shut = ("never", (sums((0, 1), (1, 1)),))
        nodes = (("fork",), shut, ("do", ()), ("gave", ()))
        for claims in ((), (("line", "f", 1),), (("way", "f", 0, True),), (("way", "f", 0, True), ("line", "f", 1))):
            self.yes(program, ("f", pre, claims, (), nodes))
            self.no(program, ("f", (), claims, (), nodes))
        for claims in ((("line", "f", 2),), (("way", "f", 0, False),), (("line", "f", 0),), (("line", "f", 3),)):
            self.no(program, ("f", pre, claims, (), nodes))
        # Split first: the same ways on both sides.
        split = ("split", form(-9, (("n", 0), 1)))
        twice = (split, ("fork",), ("never", (sums((0, 1), (2, 1)),)), ("do", ()), ("gave", ())) + (("fork",), ("never", (sums((0, 1), (2, 1)),)), ("do", ()), ("gave", ()))
        self.yes(program, ("f", pre, (("line", "f", 1),), (), twice))
        self.no(program, ("f", pre, (("line", "f", 1),), (), twice[1:]), ("f", pre, (("line", "f", 1),), (), twice[:-1]))
        # What has to be shut may be split, and is to be shut still.
        inner = (("fork",), split, ("never", (sums((0, 1), (1, 1)),)), ("never", (sums((0, 1), (1, 1)),)), ("do", ()), ("gave", ()))
        self.yes(program, ("f", pre, (("way", "f", 0, True),), (), inner))
        self.no(program, ("f", pre, (("way", "f", 0, True),), (), inner[:3] + (("do", ()), ("gave", ())) + inner[4:]))

    def test_new(self):
        program = made("function f num x num\nlet x add var x 1\nsay up less 0 var x\nend")
        pre = (least(3, (name("x"), 1)),)
        claims = (("breaks", "f", 1, "up"),)
        spec = (least(-1, (name("x"), 1)),)
        # Behind the let x is n 0 and 1: 1 or more, as the pre tells that n 0 is.
        nodes = (("do", ()), ("new", "x", spec, (sums((0, 1), (1, 1)),)), ("do", (sums((1, 1), (2, 1)),)), ("gave", ()))
        self.yes(program, ("f", (least(0, (name("x"), 1)),), claims, (), nodes))
        self.no(program, ("f", pre, claims, (), nodes), ("f", (least(0, (name("x"), 1)),), claims, (), nodes[:1] + nodes[2:]))
        self.no(program, ("f", (least(0, (name("x"), 1)),), claims, (), nodes[:1] + (("new", "x", (), ()),) + nodes[2:]))
        self.no(program, ("f", (least(0, (name("x"), 1)),), claims, (), nodes[:1] + (("new", "x", (least(-2, (name("x"), 1)),), nodes[1][3]),) + nodes[2:]))


class Contracts(Checked):
    @classmethod
    def setUpClass(cls):
        cls.paper = shown_by(CALLING, "top", CALLING_PRE, CALLING_CLAIMS, {}, {"down": (CALLING_PRE, CALLING_POST)})
        cls.down = cls.paper[3][0]

    def test_right(self):
        self.yes(CALLING, self.paper)
        # Contracts of functions that aren't called are looked at, too.
        top = ("top", (least(-1),), (), (("never", (sums((0, 1)),)),))
        self.yes(CALLING, self.changed(self.paper, 3, (top, self.down)))
        self.yes(CALLING, self.changed(self.paper, 3, (self.down, top)))
        self.no(CALLING, self.changed(self.paper, 3, (self.down, top[:3] + ((),))))
        # What is claimed is looked at in contracts: n below 1 is come to there.
        self.no(CALLING, self.changed(self.paper, 2, CALLING_CLAIMS + (("line", "down", 3),)))
        self.no(CALLING, self.changed(self.paper, 2, CALLING_CLAIMS + (("way", "down", 0, False),)))

    def test_contracts_by_kind(self):
        for thing in ((), [], None, 0, self.down, [self.down], (self.down, self.down), (list(self.down),), (self.down[:3],), (self.down + ((),),),
                      (None,), (self.down, None), (self.down, ()), (("top",) + self.down[1:],), (("none",) + self.down[1:],), ((["down"],) + self.down[1:],),
                      (("down", list(self.down[1])) + self.down[2:],), (self.down[:2] + (list(self.down[2]),) + self.down[3:],),
                      (self.down[:3] + (list(self.down[3]),),), (self.down[:3] + (None,),)):
            self.no(CALLING, self.changed(self.paper, 3, thing))

    def test_like_functions(self):
        top = ("top", (least(-1),), (), (("never", (sums((0, 1)),)),))
        other = ("top", (least(-2),), (), (("never", (sums((0, 1)),)),))
        self.yes(CALLING, self.changed(self.paper, 3, (top, self.down)))
        self.no(CALLING, self.changed(self.paper, 3, (top, self.down, other)), self.changed(self.paper, 3, (top, top, self.down)))

    def test_specs_of_contracts(self):
        g, pre, post, nodes = self.down
        for fact in (least(0, (name("x"), 1)), least(0, (name("gives"), 1)), least(0, (was("n"), 1)), least(0, (("n", 0), 1)), ZERO, None):
            self.no(CALLING, self.changed(self.paper, 3, ((g, pre + (fact,), post, nodes),)))
        for fact in (least(0, (name("x"), 1)), least(0, (was("n"), 1)), least(0, (("n", 0), 1)), least(0, (name("gives", "n"), 1)), ZERO, None):
            self.no(CALLING, self.changed(self.paper, 3, ((g, pre, post + (fact,), nodes),)))

    def test_weaker_and_stronger(self):
        g, pre, post, nodes = self.down
        weaker = (least(1, (name("n"), 1)),)
        self.no(CALLING, self.changed(self.paper, 3, ((g, weaker, post, nodes),)))
        self.no(CALLING, self.changed(self.paper, 3, ((g, (), post, nodes),)))
        self.no(CALLING, self.changed(self.paper, 3, ((g, pre, (least(-1, (name("gives"), 1)),) + post[1:], nodes),)))
        self.no(CALLING, self.changed(self.paper, 3, ((g, pre, post[1:], nodes),)))
        self.no(CALLING, self.changed(self.paper, 1, ()))

    def test_nodes_of_contracts(self):
        g, pre, post, nodes = self.down
        for k in range(len(nodes)):
            self.no(CALLING, self.changed(self.paper, 3, ((g, pre, post, nodes[:k] + nodes[k + 1:]),)))
            self.no(CALLING, self.changed(self.paper, 3, ((g, pre, post, nodes[:k]),)))
            self.no(CALLING, self.changed(self.paper, 3, ((g, pre, post, nodes + nodes[k:k + 1]),)))

    def test_the_post_is_the_contracts_own(self):
        """The paper's nodes show no post, though its function has a contract."""
        program = made("function f num x num\ngive 3\nend")
        own = ("f", (), (least(-3, (name("gives"), 1)),), (("gave", (sums((0, 1)),)),))
        self.yes(program, ("f", (), (), (own,), (("gave", ()),)))
        self.no(program, ("f", (), (), (own,), own[3]), ("f", (), (), (own[:3] + ((("gave", ()),),),), (("gave", ()),)))
        self.no(program, ("f", (), (), (own[:2] + ((least(-4, (name("gives"), 1)),),) + own[3:],), (("gave", ()),)))


class Whiles(Checked):
    @classmethod
    def setUpClass(cls):
        cls.paper = shown_by(ADDING, "sum", ADDING_PRE, ADDING_CLAIMS, ADDING_KEPT, {})

    def test_right(self):
        self.yes(ADDING, self.paper)
        self.assertEqual([node[0] for node in self.paper[4]], ["keep", "do", "do", "kept", "do", "gave"])

    def test_without_its_pre(self):
        self.no(ADDING, self.changed(self.paper, 1, ()))
        # By a step of the refutation it goes: no row is shorter than 0.
        keep = self.paper[4][0]
        self.assertEqual(len(keep[2]), 5)
        length = (("len", ("r", 0)), ("sum", ((0, 1), (1, 1))))
        zero = (sums((0, 1)),)
        plain = ("keep", keep[1][:2], zero + (length,))
        nodes = (plain, ("do", (sums((1, 1), (4, 1)), sums((3, 1), (5, 1)))), ("do", ()), ("kept", (sums((1, 1), (6, 1)), sums((3, 1), (6, 1)))), ("do", ()), ("gave", ()))
        self.yes(ADDING, ("sum", (), (("breaks", "sum", 1, "range"),), (), nodes))

    def test_sharper_rounds(self):
        for number, right in ((7, True), (1, True), (0, True), (-1, False), (-9, False)):
            claims = ADDING_CLAIMS[:2] + (("rounds", "sum", 0, form(number, (("len", name("q")), 1))),)
            self.assertIs(lets_by(ADDING, self.changed(self.paper, 2, claims)), right)
        self.no(ADDING, self.changed(self.paper, 2, ADDING_CLAIMS + ADDING_CLAIMS[2:]), self.changed(self.paper, 2, ADDING_CLAIMS[:2]))

    def test_specs_of_another_while(self):
        keep = self.paper[4][0]
        for specs in (keep[1][1:], keep[1][:3], (), keep[1] + (least(-1),), (least(-1, (name("i"), 1)),) + keep[1][1:]):
            self.no(ADDING, self.changed(self.paper, 4, (("keep", specs) + keep[2:],) + self.paper[4][1:]))

    def test_a_claimed_while_is_not_forked(self):
        program = made("function f num\nlocal i num\nwhile less var i 1\nlet i 1\nend\nend")
        forked = (("fork",), ("do", ()), ("fork",), ("never", (sums((1, 1)),)), ("gave", ()), ("never", (sums((0, 1)),)))
        self.yes(program, ("f", (), (), (), forked))
        self.no(program, ("f", (), (("rounds", "f", 0, (9, ())),), (), forked))


# Terms that grow: variables become unknowns again and again.
GROWING = made("""
    function f num x num
    local q row
    local i num
    local s num
    while less var i 14
        let q more var q add var i var x
        let s add var s at var q var i
        let i add 1 var i
    end
    say low less -1 var s
    give at put var q 3 var s 13
    end
""")
GROWING_PAPER = never(GROWING, "f", (0, 1, 0, 97, 97), 100, (("breaks", "f", 2, "range"), ("breaks", "f", 4, "low"), ("breaks", "f", 5, "range")))


class SoIsWhatIsLetBy(unittest.TestCase):
    """Point 61, over papers that are bent, and over programs that are bent under a paper."""

    PAPERS = (
        (UP, UP_PAPER),
        (ADDING, shown_by(ADDING, "sum", ADDING_PRE, ADDING_CLAIMS, ADDING_KEPT, {})),
        (CALLING, shown_by(CALLING, "top", CALLING_PRE, CALLING_CLAIMS, {}, {"down": (CALLING_PRE, CALLING_POST)})),
        (ADDING, never(ADDING, "sum", (-1, 1, 2, 97, 97), 50, ADDING_CLAIMS[:2])),
        (CALLING, never(CALLING, "top", (0, 3, 0, 97, 97), 50, CALLING_CLAIMS)),
        (GROWING, GROWING_PAPER),
    )
    OTHERS = (0, 1, None, True, (), ZERO, "x", "i", "do", "never", name("i"), least(-1), least(0), ("gave", ()), ("rounds",))

    def look(self, program, paper, seed):
        if not lets_by(program, paper):
            return False
        for values in some_inputs(program, paper[0], 25, seed):
            self.assertEqual(broken_claims(program, paper, values), [], (program, paper, values))
        return True

    def test_papers_as_they_are(self):
        for number, (program, paper) in enumerate(self.PAPERS):
            self.assertTrue(self.look(program, paper, number))
        self.assertEqual({node[1] for node in GROWING_PAPER[4] if node[0] == "new"}, {"q", "s"})

    def test_bent_papers(self):
        maker = random.Random(61)
        let_by = 0
        for _ in range(12000):
            program, paper = maker.choice(self.PAPERS)
            told = bent(maker, paper, self.OTHERS)
            let_by += told != paper and self.look(program, told, 1)
        self.assertGreater(let_by, 150)

    def test_bent_claims(self):
        """Other claims under the same nodes, and rounds by other bounds."""
        maker = random.Random(62)
        let_by = 0
        for program, paper in self.PAPERS:
            spots = [(spot,) for spot in spots_of(program)]
            rounds = [tuple(("rounds", "sum", 0, form(k, *pairs)) for _ in "x") for k in range(-2, 6) for pairs in ((), ((("len", name("q")), 1),))]
            for claims in spots + (rounds if program == ADDING else []):
                for told in (claims, paper[2] + claims, claims + paper[2][1:]):
                    let_by += self.look(program, paper[:2] + (told,) + paper[3:], maker.randint(0, 9))
        self.assertGreater(let_by, 10)

    def test_bent_programs(self):
        maker = random.Random(63)
        seen = let_by = 0
        while seen < 6000:
            program, paper = maker.choice(self.PAPERS)
            told = bent(maker, program, (0, 1, ("num", 0), ("var", "x"), ("var", "i"), ("var", "n"), "x", "i", "n", "less", "same", "add", "sub", ()))
            try:
                right_program(told)
            except NoProgram:
                continue
            seen += 1
            let_by += told != program and self.look(told, paper, 2)
        self.assertGreater(let_by, 100)

    def test_what_runs_meet_is_never_let_by(self):
        """A paper that claims what a run meets is let by under no nodes that go by a room."""
        for program, f, room in ((UP, "f", (-2, 2, 0, 97, 97)), (CALLING, "top", (0, 3, 0, 97, 97))):
            paper = never(program, f, room, 60, ())
            for values in inputs(program, f, room):
                for spot in run(program, f, values, 60)[1]:
                    self.assertFalse(lets_by(program, paper[:2] + ((spot,),) + paper[3:]))


if __name__ == "__main__":
    unittest.main()
