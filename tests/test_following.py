"""Runs followed through the states of papers, line by line (point 61)."""

import unittest

from everyfork.facts import holds, row_of, value_of
from everyfork.going import never
from everyfork.kinds import parts, sign_of
from everyfork.programs import function_of, lines_of, spots_of, variable_kinds
from everyfork.rooms import inputs
from everyfork.running import run
from everyfork.showing import shown_by
from everyfork.values import flat, unflat
from everyfork.walking import first_state, planned
from tests.samples import Maker
from tests.test_going import met_spots
from tests.test_running import Broken, Dry, Other
from tests.test_showing import between, same
from tests.walked import (ADDING, ADDING_CLAIMS, ADDING_KEPT, ADDING_PRE, CALLING, CALLING_CLAIMS, CALLING_POST, CALLING_PRE, input_holds, made,
                          name, some_inputs)
from tests.formed import form, least

ROUNDS = ("rounds",)


class Tree:
    """A node of a paper with its state and the trees of the states that it lays."""

    def __init__(self, state):
        self.state = state
        self.node = None
        self.kids = []


def grown(program, claims, contracts, post, state, nodes):
    """The tree of nodes."""
    root = Tree(state)
    pile = [root]
    for node in nodes:
        tree = pile.pop()
        tree.node = node
        tree.kids = [Tree(one) for one in planned(program, claims, contracts, post, tree.state, node)[1]]
        pile.extend(reversed(tree.kids))
    return root


def as_parts(program, kind, value):
    """The parts of a value, of texts the numbers of their signs."""
    return [tuple(ord(sign) for sign in one) if isinstance(one, str) else one for one in flat(program, kind, value)]


def as_value(program, kind, laid):
    """The value of a kind by its parts, of texts the numbers of their signs."""
    told = ["".join(sign_of(k) for k in one) if sort == "text" else one for (_, sort), one in zip(parts(program, kind), laid)]
    return unflat(program, kind, tuple(told))


class Follower:
    """A run that goes through the states of a paper, each with a model of its facts."""

    def __init__(self, test, program, paper):
        self.test, self.program, self.paper = test, program, paper
        self.runner = Other(program, 10 ** 6)
        self.lines = 0
        self.spots = []
        self.visited = set()

    def values(self, state, place, model):
        """A dict from the variables of a frame to (kind, value)."""
        f, terms = state[0][place][:2]
        kinds = variable_kinds(function_of(self.program, f))
        told = {}
        for variable, held in terms:
            laid = [value_of(term, model) if isinstance(term[0], int) else row_of(term, model) for term in held]
            told[variable] = (kinds[variable], as_value(self.program, kinds[variable], laid))
        return told

    def meet(self, *spot):
        self.test.assertNotIn(spot, self.paper[2])
        if spot not in self.spots:
            self.spots.append(spot)

    def put_unknowns(self, model, kind, value, count):
        """A model with the unknowns of a kind from a count on; the count behind."""
        for (_, sort), one in zip(parts(self.program, kind), as_parts(self.program, kind, value)):
            model[({"num": "n", "row": "r", "text": "t"}[sort], count)] = one
            count += 1
        return count

    def choose(self, tree, model):
        """The one of the states that were laid whose facts hold, or None."""
        found = [kid for kid in tree.kids if all(holds(fact, model) for fact in kid.state[1])]
        self.test.assertLessEqual(len(found), 1)
        return found[0] if found else None

    def follow(self, f, pre, values, tree, ticks):
        """Follow a run to its end, which is told as runs tell it."""
        model, count = {}, 0
        for (_, kind), value in zip(function_of(self.program, f)[1], values):
            count = self.put_unknowns(model, kind, value, count)
        loops = []
        while True:
            self.visited.add(id(tree))
            state, node = tree.state, tree.node
            self.test.assertTrue(all(holds(fact, model) for fact in state[1]))
            self.test.assertNotEqual(node[0], "never")
            if node[0] in ("split", "new"):
                if node[0] == "new":
                    kind, value = self.values(state, -1, model)[node[1]]
                    model = dict(model)
                    self.put_unknowns(model, kind, value, state[2])
                tree = self.choose(tree, model)
                continue
            if node[0] == "kept":
                # Whiles that were left, at their end or by a give, go.
                spot = (len(state[0]), state[0][-1][2][0][1])
                while loops[-1][0] != spot:
                    loops.pop()
                _, tree, rounds, base = loops.pop()
                held = self.values(state, -1, model)
                model = self.keep(tree, base, held, rounds + 1)
                loops.append((spot, tree, rounds + 1, base))
                state, k = tree.state, spot[1]
                if self.lines == ticks:
                    return ("dry",)
                self.lines += 1
                tree = self.way(tree, held, model, k, state)
                continue
            end = self.line(tree, model, loops, ticks)
            if end[0] != "on":
                return end
            tree, model = end[1:]

    def keep(self, tree, model, held, rounds):
        """The model in which a while's unknowns have the values of now."""
        state = tree.state
        f, _, tasks = state[0][-1][:3]
        k = tasks[0][1]
        model = dict(model)
        count = state[2]
        statement = lines_of(function_of(self.program, f))[k]
        changed = changed_by(statement[2])
        for x, kind in variable_kinds(function_of(self.program, f)).items():
            if x in changed:
                count = self.put_unknowns(model, kind, held[x][1], count)
        model[("n", count)] = rounds
        return model

    def way(self, tree, held, model, k, state):
        """The state behind a condition."""
        f = state[0][-1][0]
        statement = lines_of(function_of(self.program, f))[k]
        truth = self.runner.holds(f, k, held, statement[1])
        self.meet("line", f, k)
        self.meet("way", f, k, truth)
        kid = self.choose(tree, model)
        self.test.assertIsNotNone(kid)
        self.test.assertFalse(kid.state[3])
        return kid

    def line(self, tree, model, loops, ticks):
        """Go on by a line or an end."""
        state, node = tree.state, tree.node
        f, _, tasks = state[0][-1][:3]
        held = self.values(state, -1, model)
        if not tasks:
            self.test.assertEqual(node[0], "gave")
            return ("back", self.runner.nought(function_of(self.program, f)[3]))
        k = tasks[0][1]
        if self.lines == ticks:
            return ("dry",)
        self.lines += 1
        statement = lines_of(function_of(self.program, f))[k]
        if statement[0] in ("if", "while"):
            if node[0] == "keep":
                loops.append(((len(state[0]), k), tree, 0, model))
                model = self.keep(tree, model, held, 0)
            return ("on", self.way(tree, held, model, k, state), model)
        self.meet("line", f, k)
        try:
            return self.plain(tree, model, f, k, held, statement, ticks)
        except Broken as e:
            self.meet("breaks", *e.args)
            self.test.assertIsNone(self.choose(tree, model))
            return ("fails",) + e.args
        except Dry:
            return ("dry",)

    def plain(self, tree, model, f, k, held, statement, ticks):
        """Go on by a line that is no fork."""
        state, node = tree.state, tree.node
        if statement[0] == "say" and not self.runner.holds(f, k, held, statement[2]):
            raise Broken(f, k, statement[1])
        given = [self.runner.value(f, k, held, e)[1] for e in self.asked(statement)]
        if node[0] == "gave":
            return ("back", given[0])
        if node[0] == "by":
            runner = Other(self.program, ticks - self.lines)
            value = runner.frame(statement[2], given)
            self.lines = ticks - runner.ticks
            for spot in runner.spots:
                self.meet(*spot)
            model = dict(model)
            self.put_unknowns(model, held[statement[1]][0], value, state[2])
        kid = self.choose(tree, model)
        self.test.assertIsNotNone(kid)
        self.look(tree, kid, model, statement, given, node, state)
        return ("on", kid, model)

    def asked(self, statement):
        """The expressions of a line that is no fork."""
        if statement[0] == "call":
            return statement[3]
        return () if statement[0] == "say" else statement[-1:]

    def look(self, tree, kid, model, statement, given, node, state):
        """The values behind a let, a give or a call into a function are those that were reckoned."""
        if statement[0] == "let":
            wanted = self.values(state, -1, model)
            wanted[statement[1]] = (wanted[statement[1]][0], given[0])
            if len(kid.state[0]) == len(state[0]):
                self.test.assertEqual(self.values(kid.state, -1, model), wanted)
        elif statement[0] == "give" and len(kid.state[0]) == len(state[0]) - 1:
            self.test.assertEqual(self.values(kid.state, -1, model)[state[0][-1][3]][1], given[0])
        elif node[0] == "into" and len(kid.state[0]) == len(state[0]) + 1:
            held = self.values(kid.state, -1, model)
            params = function_of(self.program, statement[2])[1]
            self.test.assertEqual([held[x][1] for x, _ in params], given)


def changed_by(body):
    """The variables that a body sets, at any depth."""
    told = set()
    for one in body:
        if one[0] in ("let", "call"):
            told.add(one[1])
        for inner in one[2:4] if one[0] == "if" else one[2:3] if one[0] == "while" else ():
            told |= changed_by(inner)
    return told


class Following(unittest.TestCase):
    def follow_all(self, program, paper, many, ticks=150):
        """Follow runs from inputs for which the pre holds; how many nodes they came to."""
        f, pre, claims, contracts, nodes = paper
        tree = grown(program, claims, contracts, (), first_state(program, f, pre), nodes)
        follower = Follower(self, program, paper)
        for values in many:
            if input_holds(program, f, pre, values):
                follower.lines, follower.spots = 0, []
                told = follower.follow(f, pre, values, tree, ticks)
                wanted = run(program, f, values, ticks)
                self.assertEqual((told, sorted(follower.spots)), (wanted[0], sorted(wanted[1])), values)
        return len(follower.visited)

    def test_whiles_and_contracts(self):
        paper = shown_by(ADDING, "sum", ADDING_PRE, ADDING_CLAIMS, ADDING_KEPT, {})
        self.assertEqual(self.follow_all(ADDING, paper, some_inputs(ADDING, "sum", 40)), len(paper[4]))
        paper = shown_by(CALLING, "top", CALLING_PRE, CALLING_CLAIMS, {}, {"down": (CALLING_PRE, CALLING_POST)})
        self.assertEqual(self.follow_all(CALLING, paper, some_inputs(CALLING, "top", 40)), len(paper[4]))

    def test_whiles_within_whiles_and_calls(self):
        program = made("""
            record pair a num b row
            function f pair n num
            local i num
            local p pair
            local j num
            while less var i var n
                let p with b var p more of b var p var j
                let j 0
                while less var j var i
                    call j up 1 var j
                    if less 2 var j
                        let p with a var p add of a var p var j
                    else
                    end
                end
                say grown less 0 len of b var p
                let i add 1 var i
            end
            give var p
            end
            function up num k num
            local out num
            if less var k 3
                call out same 1 add 1 var k
                give var out
            else
            end
            give add var k 1
            end
            function same num k num
            give var k
            end
        """)
        n, i, j = name("n"), name("i"), name("j")
        pre = (least(0, (n, 1)),)
        long = ("len", name("p", "b"))
        kept = {("f", 0): between((0, ()), i, form(0, (n, 1))) + same(i, ROUNDS) + (least(0, (long, 1)),),
                ("f", 3): between((0, ()), j, form(0, (i, 1))) + same(j, ROUNDS) + (least(-1, (long, 1)),)}
        claims = (("rounds", "f", 0, form(0, (n, 1))), ("rounds", "f", 3, form(0, (i, 1))), ("breaks", "f", 7, "grown"))
        for contracts in ({}, {"up": ((), between(form(1, (name("k"), 1)), name("gives"), form(1, (name("k"), 1))))}):
            paper = shown_by(program, "f", pre, claims, kept, contracts)
            self.assertIsNotNone(paper)
            self.assertEqual(self.follow_all(program, paper, [(k,) for k in range(9)], 400), len(paper[4]) - sum(node[0] == "never" for node in paper[4]))

    def test_rooms(self):
        followed = 0
        for seed in range(200, 240):
            program = Maker(seed).program()
            room = ((0, 1, 0, 97, 97), (0, 0, 1, 36, 38), (-1, 0, 0, 97, 97), (2, 2, 1, 97, 97))[seed % 4]
            if all(run(program, "one", values, 60)[0] != ("dry",) for values in inputs(program, "one", room)):
                met = met_spots(program, "one", room, 60)
                paper = never(program, "one", room, 60, tuple(spot for spot in spots_of(program) if spot not in met))
                nodes = self.follow_all(program, paper, inputs(program, "one", room), 60)
                self.assertEqual(nodes, sum(node[0] != "never" for node in paper[4]))
                followed += 1
        self.assertGreater(followed, 20)


if __name__ == "__main__":
    unittest.main()
