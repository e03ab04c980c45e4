"""A state with what is next in it, and how frames begin, change and end."""

from everyfork.alternatives import alternatives
from everyfork.forms import not_of, put_in
from everyfork.programs import function_of, lines_of, numbered
from everyfork.refuting import as_facts
from everyfork.specs import facts_to_refute, names_by
from everyfork.stating import asked_by, noughts, terms_of, unknowns_from


def tasks_of(body):
    """The tasks of a body, whose statements stand with their numbers."""
    return tuple([("line", pair[0]) for pair in body])


def first_terms(program, f):
    """The terms of a function's params as unknowns from 0 on, and the count behind them."""
    told = []
    count = 0
    for param, kind in function_of(program, f)[1]:
        made = unknowns_from(program, kind, count)
        told.append((param, made[0]))
        count = made[1]
    return (tuple(told), count)


def new_frame(program, f, params, target):
    """The frame of a function at its begin, params the terms of its params with their names."""
    function = function_of(program, f)
    rest = tuple([(pair[0], noughts(program, pair[1])) for pair in function[2]])
    return (f, params + rest, tasks_of(numbered(function[4], 0)), target)


def next_line(state):
    """The function and the number of the line that is next in a state, or None where none is."""
    frame = state[0][-1]
    if len(frame[2]) == 0 or frame[2][0][0] != "line":
        return None
    return (frame[0], frame[2][0][1])


def statement_at(program, line):
    """The statement of a line told by its function and number."""
    return lines_of(function_of(program, line[0]))[line[1]]


def with_terms(terms, x, given):
    """Terms of variables with those of one variable in the place of its own."""
    return tuple([(x, given) if pair[0] == x else pair for pair in terms])


def without_last(frames, given):
    """Frames without the last one, whose target gets terms."""
    ahead = frames[-2]
    return frames[:-2] + ((ahead[0], with_terms(ahead[1], frames[-1][3], given), ahead[2], ahead[3]),)


def ended(program, frames):
    """Frames without the last ones that end by themselves."""
    while len(frames) > 1 and len(frames[-1][2]) == 0:
        frames = without_last(frames, noughts(program, function_of(program, frames[-1][0])[3]))
    return frames


class Standing:
    """A state with what is next in it, on which a node is done."""

    def __init__(self, program, claims, state):
        self.program = program
        self.claims = claims
        self.state = state
        self.facts = list(state[1])
        self.number = state[2]
        self.frame = state[0][-1]
        self.f = self.frame[0]
        self.terms = self.frame[1]
        self.line = next_line(state)
        self.statement = None if self.line is None else statement_at(program, self.line)
        # What is next, by one word: that of a line's statement, kept, or end.
        self.word = "end" if len(self.frame[2]) == 0 else "kept"
        if self.line is not None:
            self.word = self.statement[0]

    def is_first(self):
        """Whether the last frame is the first one."""
        return len(self.state[0]) == 1

    def is_claimed(self, head, last):
        """Whether a spot of the line that is next is claimed."""
        return (head,) + self.line + (last,) in self.claims

    def names(self):
        """The names of the variables put by their terms."""
        return names_by(self.program, self.f, self.terms, "name")

    def asked_forms(self, expressions):
        """The forms that expressions ask, from left to right."""
        told = []
        for e in expressions:
            told.extend(asked_by(self.program, self.f, self.terms, e))
        return told

    def to_refute(self, forms):
        """The lists that have to be refuted for forms that the line asks."""
        if not self.is_claimed("breaks", "range"):
            return []
        told = []
        for place, form in enumerate(forms):
            told.append(self.facts + as_facts(forms[:place] + [not_of(form)]))
        return told

    def to_show(self, more, specs, names):
        """The lists that have to be refuted to show specs of the facts with more."""
        known = self.facts + more
        return [facts_to_refute(known, self.number, put_in(spec, names)) for spec in specs]

    def value_of_line(self, e):
        """The terms of an expression of the line that is next."""
        return terms_of(self.program, self.f, self.terms, e)

    def ways(self, terms, truth):
        """The alternatives of the condition of the line that is next, for a truth, by terms of the variables."""
        c = self.statement[2] if self.word == "say" else self.statement[1]
        return alternatives(self.program, self.f, terms, c, truth)

    def frames_with(self, terms, tasks):
        """The frames, the last one with other terms and tasks."""
        return self.state[0][:-1] + ((self.f, terms, tasks, self.frame[3]),)

    def lay(self, frames, more, count, shut):
        """The state of frames with more facts behind those that are here."""
        return (ended(self.program, frames), tuple(self.facts + more), count, shut)
