"""What tests of states, nodes and papers go by: programs by their rows, runs that count rounds, papers looked at."""

import random

from everyfork.programs import right_program
from everyfork.reading import read
from tests.formed import form, reckoned, stands
from tests.test_running import Broken, Dry, Gave, Other


def made(text):
    """The right program that rows show, blanks ahead of them aside."""
    program = read([row.strip() for row in text.strip().split("\n")])
    right_program(program)
    return program


def name(*path):
    """The name of a part."""
    return ("name", path)


def was(*path):
    """The name of a part as it was."""
    return ("was", path)


def laid_out(program, variables, head="name"):
    """A model from the names of all parts of variables, a dict from names to (kind, value)."""
    records = dict(program[0])
    told = {}

    def lay(path, kind, value):
        if kind in records:
            for (field, inner), one in zip(records[kind], value):
                lay(path + (field,), inner, one)
        else:
            told[(head, path)] = tuple(ord(sign) for sign in value) if kind == "text" else value

    for variable, (kind, value) in variables.items():
        lay((variable,), kind, value)
    return told


class Counting(Other):
    """Another runner, which also looks whether whiles go round more often than claims tell."""

    def __init__(self, program, ticks, claims):
        super().__init__(program, ticks)
        self.program = program
        self.bounds = [claim for claim in claims if claim[0] == "rounds"]
        self.beyond = []

    def line(self, f, kinds, held, one, k):
        if one[0] != "while":
            super().line(f, kinds, held, one, k)
            return
        model = laid_out(self.program, held)
        rounds = 0
        while True:
            if self.ticks == 0:
                raise Dry()
            self.ticks -= 1
            self.meet("line", f, k)
            truth = self.holds(f, k, held, one[1])
            self.meet("way", f, k, truth)
            if not truth:
                return
            for claim in self.bounds:
                if claim[1:3] == (f, k) and not rounds < reckoned(claim[3], model):
                    self.beyond.append(claim)
            rounds += 1
            self.body(f, kinds, held, one[2], k + 1)


def input_holds(program, f, pre, values):
    """Whether all facts of a pre hold for values."""
    params = dict((one[0], one[1]) for one in program[1])[f]
    model = laid_out(program, {param: (kind, value) for (param, kind), value in zip(params, values)})
    return all(stands(fact, model) for fact in pre)


def broken_claims(program, paper, values, ticks=60):
    """The claims of a paper that a run from values breaks, none where its pre does not hold."""
    f, pre, claims = paper[:3]
    if not input_holds(program, f, pre, values):
        return []
    runner = Counting(program, ticks, claims)
    spots = runner.told(f, values)[1]
    return [claim for claim in claims if claim in spots or claim in runner.beyond]


def some_values(maker, program, kind):
    """A value of a kind, small or somewhat greater, by a random source."""
    records = dict(program[0])
    if kind == "num":
        return maker.choice((maker.randint(-3, 3), maker.randint(-30, 30)))
    if kind == "row":
        return tuple(maker.randint(-5, 9) for _ in range(maker.randint(0, 6)))
    if kind == "text":
        return "".join(maker.choice(" abz~&$") for _ in range(maker.randint(0, 6)))
    return tuple(some_values(maker, program, inner) for _, inner in records[kind])


def some_inputs(program, f, many, seed=0):
    """Some inputs of a function, whatever their size."""
    maker = random.Random(seed)
    kinds = [kind for _, kind in dict((one[0], one[1]) for one in program[1])[f]]
    return [tuple(some_values(maker, program, kind) for kind in kinds) for _ in range(many)]


def bent(maker, thing, others):
    """A thing with one place in it bent: a number, a truth, a text or a tuple taken for another one."""
    if isinstance(thing, bool):
        return not thing
    if isinstance(thing, int):
        return maker.choice((thing + 1, thing - 1, -thing, 0, thing * 2))
    if not isinstance(thing, tuple) or maker.random() < 0.05:
        return maker.choice(others)
    if len(thing) == 0:
        return maker.choice((thing, (maker.choice(others),)))
    way = maker.random()
    place = maker.randrange(len(thing))
    if way < 0.06:
        return thing[:place] + thing[place + 1:]
    if way < 0.12:
        return thing[:place] + (maker.choice(thing),) + thing[place:]
    if way < 0.18:
        other = maker.randrange(len(thing))
        told = list(thing)
        told[place], told[other] = told[other], told[place]
        return tuple(told)
    return thing[:place] + (bent(maker, thing[place], others),) + thing[place + 1:]


# A row's numbers are added up; each is looked up where it is.
ADDING = made("""
    function sum num q row
    local i num
    local s num
    while less var i len var q
        let s add var s at var q var i
        let i add 1 var i
    end
    say all same var i len var q
    give var s
    end
""")
LEN_Q = ("len", name("q"))
ADDING_PRE = (("least", form(0, (LEN_Q, 1))),)
ADDING_KEPT = {("sum", 0): (
    ("least", form(0, (name("i"), 1))),
    ("least", form(0, (LEN_Q, 1), (name("i"), -1))),
    ("least", form(0, (name("i"), 1), (("rounds",), -1))),
    ("least", form(0, (name("i"), -1), (("rounds",), 1))),
)}
ADDING_CLAIMS = (("breaks", "sum", 1, "range"), ("breaks", "sum", 3, "all"), ("rounds", "sum", 0, form(0, (LEN_Q, 1))))

# A function that calls itself, and one that leans on what it gives.
CALLING = made("""
    function top num n num
    local x num
    call x down 1 var n
    say ok not less var x 0
    say even same var x var n
    give var x
    end
    function down num n num
    local x num
    if less 0 var n
        call x down 1 sub var n 1
        give add var x 1
    else
    end
    give 0
    end
""")
CALLING_PRE = (("least", form(0, (name("n"), 1))),)
CALLING_POST = (
    ("least", form(0, (name("gives"), 1))),
    ("least", form(0, (name("gives"), 1), (name("n"), -1))),
    ("least", form(0, (name("gives"), -1), (name("n"), 1))),
)
CALLING_CLAIMS = (("breaks", "top", 1, "ok"), ("breaks", "top", 2, "even"))
