"""Papers by what is kept: the plain walk, in which all is refuted by one sum each."""

from everyfork.standing import next_line, statement_at
from everyfork.summing import summed
from everyfork.walking import first_state, has_to_be_shut, planned


def plainly_refuted(facts):
    """The refutation of facts by one sum, or None where there is none."""
    step = summed(facts)
    return None if step is None else (step,)


def refuted_all(lists):
    """The plain refutations of lists of facts, or None where one has none."""
    told = []
    for facts in lists:
        steps = plainly_refuted(facts)
        if steps is None:
            return None
        told.append(steps)
    return tuple(told)


class Showing:
    """The plain walk of a function, by what is kept of its whiles and by contracts."""

    def __init__(self, program, claims, kept, contracts):
        self.program = program
        self.claims = claims
        self.specs = kept
        # Contracts are told by their nodes at last; for the walk these don't matter.
        self.contracts = tuple([(g,) + tuple(contracts[g]) + ((),) for g in sorted(contracts)])

    def node_at_end(self, state):
        """The node where no line is next, without its refs."""
        return ("kept", ()) if len(state[0][-1][2]) > 0 else ("gave", ())

    def node_of_call(self, state, g):
        """The node of a call, without its refs, or None where the walk fails."""
        if g in [contract[0] for contract in self.contracts]:
            return ("by", ())
        return None if g in [frame[0] for frame in state[0]] else ("into", ())

    def node_for(self, state):
        """The node for what is next, without its refs, or None where the walk fails."""
        line = next_line(state)
        if line is None:
            return self.node_at_end(state)
        statement = statement_at(self.program, line)
        word = statement[0]
        if word == "if":
            return ("fork",)
        if word == "while":
            return ("keep", self.specs[line], ()) if line in self.specs else None
        if word == "call":
            return self.node_of_call(state, statement[2])
        return ("gave", ()) if word == "give" and len(state[0]) == 1 else ("do", ())

    def step(self, post, state):
        """The node of a state, not plainly refuted, and the states that it lays, or None where the walk fails."""
        if has_to_be_shut(self.claims, state):
            return None
        node = self.node_for(state)
        told = planned(self.program, self.claims, self.contracts, post, state, node)
        if told is None:
            return None
        refs = refuted_all(told[0])
        if refs is None:
            return None
        return (node if node == ("fork",) else node[:-1] + (refs,), told[1])

    def walk(self, f, pre, post):
        """The nodes of a function from its pre on, or None where the walk fails."""
        nodes = []
        pile = [first_state(self.program, f, pre)]
        while pile:
            state = pile.pop()
            steps = plainly_refuted(list(state[1]))
            if steps is not None:
                nodes.append(("never", (steps,)))
            else:
                told = self.step(post, state)
                if told is None:
                    return None
                nodes.append(told[0])
                pile.extend(list(reversed(told[1])))
        return tuple(nodes)


def shown_by(program, f, pre, claims, kept, contracts):
    """A paper that the plain walk makes, or None where it fails."""
    showing = Showing(program, claims, kept, contracts)
    nodes = showing.walk(f, pre, ())
    if nodes is None:
        return None
    told = []
    for g, before, behind, void in showing.contracts:
        inner = showing.walk(g, before, behind)
        if inner is None:
            return None
        told.append((g, before, behind, inner))
    return (f, pre, claims, tuple(told), nodes)
