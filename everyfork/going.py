"""Papers for a room: the walk goes apart by the inputs, and by the run of each."""

from everyfork.errors import ForkError, NoEnd, NoNever
from everyfork.facts import holds, row_of, value_of
from everyfork.forms import alone, less, not_of, plain
from everyfork.kinds import is_whole, parts
from everyfork.programs import function_of, variable_kinds
from everyfork.refuting import forms_laid
from everyfork.rooms import inputs, param_parts, room_facts
from everyfork.running import run
from everyfork.settling import Branch, room_of
from everyfork.standing import next_line, statement_at
from everyfork.stating import UNKNOWNS, unknowns_from
from everyfork.terms import COUNTED, sort_by_head, stands_in
from everyfork.walking import first_state, planned

# Terms are let grow by so many things beyond as many as it takes facts to tell the values of unknowns.
EASE = 8


class Leaf:
    """A state under way with the values of its unknowns, as far as they are told apart.

    Pins are as those of a branch of a refutation: of a thing its value, and by which facts it is told.
    """

    def __init__(self, state, pins, model, todo):
        self.state = state
        self.pins = pins
        self.model = model
        # What is still to be told apart of the params, the nearest last.
        self.todo = todo

    def twin(self):
        """A leaf that goes another way from here on."""
        return Leaf(self.state, dict(self.pins), dict(self.model), list(self.todo))

    def branch(self, facts):
        """The begin of a refutation of facts."""
        return Branch([], list(facts), dict(self.pins), self.model, [])

    def refuted(self, facts):
        """A refutation of facts one of which, behind those of the state, is wrong; None where none is."""
        for number in range(len(self.state[1]), len(facts)):
            if not holds(facts[number], self.model):
                branch = self.branch(facts)
                branch.refute(number)
                return tuple(branch.steps)
        return None


def first_todo(program, f, room):
    """What is to be told apart of the params, the nearest last, the room's facts being numbered from 0 on."""
    told = []
    number = 0
    for k, part in enumerate(param_parts(program, f)):
        if part[1] == "num":
            told.append(("range", ("n", k), number, room[0], number + 1, room[1]))
            number += 2
        else:
            told.append(("len", (UNKNOWNS[part[1]], k), number))
            number += 3
    return list(reversed(told))


def weight_of(term):
    """How many forms, things and row terms stand in a term."""
    waiting = [(sort_by_head(term), term)]
    told = 0
    while waiting:
        task = waiting.pop()
        if task[0] in COUNTED:
            told += 1
        waiting.extend(stands_in(task[0], task[1]))
    return told


def is_bare(term):
    """Whether nothing is won where a term becomes an unknown."""
    if is_whole(term[0]):
        return len(term[1]) == 0 or (term[0] == 0 and len(term[1]) == 1 and term[1][0][0][0] == "n")
    return term[0] in ("r", "t") or term == ("rows", ())


def pinned_things(term, value):
    """The things that tell an unknown's value, with their own values."""
    if is_whole(term[0]):
        return [(term[1][0][0], value)]
    told = [(("len", term), len(value))]
    for place, number in enumerate(value):
        told.append((("at", term, plain(place)), number))
    return told


def specs_of(things):
    """For each thing the two facts that it is its value."""
    told = []
    for thing, value in things:
        told.append(("least", less(alone(thing), plain(value))))
        told.append(("least", less(plain(value), alone(thing))))
    return told


class Going:
    """A paper under way: the nodes so far, and what is still to come, the nearest last."""

    def __init__(self, program, f, room, claims):
        self.program = program
        self.room = room
        self.claims = claims
        self.nodes = []
        self.pre = tuple(room_facts(program, f, room))
        state = first_state(program, f, self.pre)
        self.pile = [Leaf(state, {}, {}, first_todo(program, f, room))]

    def plan(self, leaf, node):
        """What a node has to refute and lays on a leaf's state, or None."""
        return planned(self.program, self.claims, (), (), leaf.state, node)

    def go(self):
        """Go on until nothing is to come."""
        while self.pile:
            one = self.pile.pop()
            if isinstance(one, tuple):
                self.nodes.append(one)
            elif len(one.todo) > 0:
                self.tell_apart(one, one.todo.pop())
            else:
                self.lighten(one)
                self.go_on(one)

    def split_on(self, leaf, form):
        """Split on a form; the two states."""
        node = ("split", form)
        self.nodes.append(node)
        return self.plan(leaf, node)[1]

    def learn(self, leaf, form, step):
        """Learn that a form is 0 or more, which a step tells."""
        states = self.split_on(leaf, not_of(form))
        number = len(leaf.state[1])
        branch = leaf.branch(states[0][1])
        branch.pass_by(step)
        branch.shut_by({number: 1, number + 1: 1})
        self.nodes.append(("never", (tuple(branch.steps),)))
        leaf.state = states[1]

    def tell_apart(self, leaf, task):
        """Do a task of telling the params' values apart."""
        if task[0] == "range":
            self.by_range(leaf, task)
            return
        if task[0] == "len":
            unknown = task[1]
            number = len(leaf.state[1])
            self.learn(leaf, alone(("len", unknown)), ("len", unknown))
            leaf.todo.append(("places", unknown, task[2]))
            leaf.todo.append(("range", ("len", unknown), number, 0, task[2], self.room[2]))
        elif task[0] == "places":
            many = leaf.pins[("len", task[1])][0]
            leaf.todo.append(("told", task[1]))
            leaf.todo.extend([("place", task[1], task[2], place) for place in range(many - 1, -1, -1)])
        elif task[0] == "place":
            self.by_place(leaf, task)
        else:
            unknown = task[1]
            places = list(range(leaf.pins[("len", unknown)][0]))
            leaf.model[unknown] = tuple([leaf.pins[("at", unknown, plain(place))][0] for place in places])
        self.pile.append(leaf)

    def by_place(self, leaf, task):
        """Learn both ends of a row's number at a place, which is then to be told apart."""
        place = plain(task[3])
        thing = ("at", task[1], place)
        ends = room_of(self.room, task[1])
        number = len(leaf.state[1])
        self.learn(leaf, less(alone(thing), plain(ends[0])), ("each", task[2] + 1, place))
        self.learn(leaf, less(plain(ends[1]), alone(thing)), ("each", task[2] + 2, place))
        leaf.todo.append(("range", thing, number, ends[0], number + 1, ends[1]))

    def by_range(self, leaf, task):
        """Tell apart a thing between two ends, told by facts: it is the low one, or above it."""
        thing = task[1]
        low = task[3]
        if low < task[5]:
            form = less(plain(low), alone(thing))
            number = len(leaf.state[1])
            states = self.split_on(leaf, form)
            above = leaf.twin()
            above.state = states[1]
            above.todo.append(("range", thing, number, low + 1, task[4], task[5]))
            self.pile.append(above)
            leaf.state = states[0]
            leaf.pins[thing] = (low, {task[2]: 1}, {number: 1})
        else:
            leaf.pins[thing] = (low, {task[2]: 1}, {task[4]: 1})
        if thing[0] == "n":
            leaf.model[thing] = low
        if thing[0] == "at" and thing[1][0] == "t" and low == 37:
            self.shut_sign(leaf, thing)
        else:
            self.pile.append(leaf)

    def shut_sign(self, leaf, thing):
        """Shut a state in which a text has the one sign that no text has."""
        branch = leaf.branch(leaf.state[1])
        step = ("sign", thing[1][1], thing[2])
        branch.steps.append(step)
        for forms in forms_laid(branch.known, step):
            branch.shut_with(forms)
        self.nodes.append(("never", (tuple(branch.steps),)))

    def node_for(self, leaf):
        """The node for what is next in a leaf's state, without its refs."""
        line = next_line(leaf.state)
        if line is None:
            return ("gave", ())
        word = statement_at(self.program, line)[0]
        if word in ("if", "while"):
            return ("fork",)
        if word == "call":
            return ("into", ())
        return ("gave", ()) if word == "give" and len(leaf.state[0]) == 1 else ("do", ())

    def go_on(self, leaf):
        """Do what is next in a leaf's state, all of whose unknowns are pinned."""
        node = self.node_for(leaf)
        told = self.plan(leaf, node)
        while told is None:
            self.renew(leaf, self.heaviest(leaf))
            told = self.plan(leaf, node)
        if len(node) == 2:
            node = (node[0], tuple([leaf.refuted(facts) for facts in told[0]]))
        self.nodes.append(node)
        # A refutation leans on the state that was: so all are made ahead of the leaf's going on.
        behind = [leaf.refuted(list(state[1])) for state in told[1]]
        for state, steps in reversed(list(zip(told[1], behind))):
            if steps is None:
                leaf.state = state
                self.pile.append(leaf)
            else:
                self.pile.append(("never", (steps,)))

    def value_in(self, leaf, term):
        """The value of a term in a leaf's state."""
        return value_of(term, leaf.model) if is_whole(term[0]) else row_of(term, leaf.model)

    def heaviest(self, leaf):
        """The variable of the last frame that has the most in its terms."""
        terms = [pair for pair in leaf.state[0][-1][1] if not all([is_bare(term) for term in pair[1]])]
        if len(terms) == 0:
            raise ForkError("a line whose terms are beyond the bounds of one form, row term or fact")
        return max(terms, key=lambda pair: sum([weight_of(term) for term in pair[1]]))[0]

    def lighten(self, leaf):
        """Let the variables of the last frame whose terms are heavy for their values become unknowns."""
        now = leaf.state[0][-1][1]
        for x, terms in now:
            if not all([is_bare(term) for term in terms]):
                weight = sum([weight_of(term) for term in terms])
                rows = [self.value_in(leaf, term) for term in terms if not is_whole(term[0])]
                if weight > EASE + 2 * len(terms) + 2 * sum([len(row) for row in rows]):
                    self.renew(leaf, x)

    def renew(self, leaf, x):
        """Let a variable of the last frame become unknowns, which are pinned to its values."""
        frame = leaf.state[0][-1]
        kind = variable_kinds(function_of(self.program, frame[0]))[x]
        terms = dict(frame[1])[x]
        made = unknowns_from(self.program, kind, leaf.state[2])[0]
        values = [self.value_in(leaf, term) for term in terms]
        named = []
        things = []
        for part, term, value in zip(parts(self.program, kind), made, values):
            name = ("name", (x,) + part[0])
            named.extend(pinned_things(alone(name) if part[1] == "num" else name, value))
            things.extend(pinned_things(term, value))
            leaf.model[term[1][0][0] if part[1] == "num" else term] = value
        node = ("new", x, tuple(specs_of(named)), ())
        told = self.plan(leaf, node)
        self.nodes.append(node[:3] + (tuple([leaf.refuted(facts) for facts in told[0]]),))
        number = len(leaf.state[1])
        for thing, value in things:
            leaf.pins[thing] = (value, {number: 1}, {number + 1: 1})
            number += 2
        leaf.state = told[1][0]


def never(program, f, room, ticks, spots):
    """A paper that no input of a room meets any of some spots; refused where one does, or where a run is dry."""
    met = None
    for given in inputs(program, f, room):
        told = run(program, f, given, ticks)
        if told[0] == ("dry",):
            raise NoEnd(given)
        if met is None and any([spot in told[1] for spot in spots]):
            met = given
    if met is not None:
        raise NoNever(met)
    going = Going(program, f, room, spots)
    going.go()
    return (f, going.pre, spots, (), tuple(going.nodes))
