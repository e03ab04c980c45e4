"""States of a walk through a program, and what nodes have to refute and lay there."""

from everyfork.forms import above_by_one, added, alone, not_of, plain, put_in
from everyfork.programs import function_of, numbered_bodies, variable_kinds, within
from everyfork.refuting import as_facts
from everyfork.specs import are_specs, names_at, names_by
from everyfork.standing import Standing, first_terms, new_frame, next_line, tasks_of, with_terms, without_last
from everyfork.stating import noughts, unknowns_from
from everyfork.terms import is_fact, is_form, is_row_term, names_in, unknowns_in

# Of each node's head: how many fields it has, and whether the last one are refs.
NODES = {
    "never": (2, True),
    "split": (2, False),
    "new": (4, True),
    "do": (2, True),
    "gave": (2, True),
    "into": (2, True),
    "by": (2, True),
    "fork": (1, False),
    "keep": (3, True),
    "kept": (2, True),
}


def is_node(thing):
    """Whether any plain thing is a node by its head, its length, and refs being a tuple."""
    if not isinstance(thing, tuple) or len(thing) == 0 or not isinstance(thing[0], str):
        return False
    shape = NODES.get(thing[0])
    if shape is None or len(thing) != shape[0]:
        return False
    return not shape[1] or isinstance(thing[-1], tuple)


def refs_of(node):
    """The refutations of a node, none where it has no field for them."""
    return node[-1] if NODES[node[0]][1] else ()


def first_state(program, f, pre):
    """The first state of a function and a pre."""
    made = first_terms(program, f)
    names = names_by(program, f, made[0], "name")
    facts = tuple([put_in(fact, names) for fact in pre])
    return ((new_frame(program, f, made[0], None),), facts, made[1], False)


def has_to_be_shut(claims, state):
    """Whether a state has to be shut: it came by a claimed way, or a claimed line is next."""
    line = next_line(state)
    return state[3] or (line is not None and ("line",) + line in claims)


def by_never(here):
    """What never has to refute, and that it lays nothing."""
    return ([here.facts], [])


def by_split(here, form):
    """The states that a split lays, or None where it is not right."""
    if not is_form(form) or len(names_in(form)) > 0:
        return None
    if not all([unknown[1] < here.number for unknown in unknowns_in(form)]):
        return None
    frames = here.state[0]
    told = [here.lay(frames, as_facts([one]), here.number, here.state[3]) for one in (form, not_of(form))]
    return ([], told)


def by_new(here, x, specs):
    """What new has to show, and the state in which a variable's terms are unknowns."""
    kinds = variable_kinds(function_of(here.program, here.f))
    if not isinstance(x, str) or x not in kinds or not are_specs(here.program, here.f, "now", specs):
        return None
    made = unknowns_from(here.program, kinds[x], here.number)
    terms = with_terms(here.terms, x, made[0])
    anew = names_by(here.program, here.f, terms, "name")
    more = [put_in(spec, anew) for spec in specs]
    lists = here.to_show([], specs, here.names())
    return (lists, [here.lay(here.frames_with(terms, here.frame[2]), more, made[1], False)])


def by_say(here):
    """What a say has to refute, and the states in which it holds."""
    lists = []
    if here.is_claimed("breaks", here.statement[1]):
        lists = [here.facts + as_facts(forms) for forms in here.ways(here.terms, False)]
    frames = here.frames_with(here.terms, here.frame[2][1:])
    told = [here.lay(frames, as_facts(forms), here.number, False) for forms in here.ways(here.terms, True)]
    return (lists, told)


def by_do(here):
    """What a let, a say or a give has to refute and lays, or None where none of them is next."""
    if here.word == "say":
        return by_say(here)
    if here.word != "let" and (here.word != "give" or here.is_first()):
        return None
    e = here.statement[-1]
    forms = here.asked_forms([e])
    given = here.value_of_line(e)
    if here.word == "let":
        frames = here.frames_with(with_terms(here.terms, here.statement[1], given), here.frame[2][1:])
    else:
        frames = without_last(here.state[0], given)
    return (here.to_refute(forms), [here.lay(frames, as_facts(forms), here.number, False)])


def by_gave(here, post):
    """What the end of the first frame has to refute and to show, or None where it is not next."""
    if not here.is_first() or here.word not in ("give", "end"):
        return None
    kind = function_of(here.program, here.f)[3]
    forms = []
    lists = []
    given = noughts(here.program, kind)
    if here.word == "give":
        forms = here.asked_forms([here.statement[1]])
        lists = here.to_refute(forms)
        given = here.value_of_line(here.statement[1])
    names = names_by(here.program, here.f, first_terms(here.program, here.f)[0], "name")
    names.update(names_at(here.program, "name", "gives", kind, given))
    return (lists + here.to_show(as_facts(forms), post, names), [])


def params_given(here):
    """The params of the function that is called with the terms that it gets."""
    function = function_of(here.program, here.statement[2])
    given = [here.value_of_line(e) for e in here.statement[3]]
    return tuple([(param[0], terms) for param, terms in zip(function[1], given)])


def by_into(here):
    """What a call has to refute, and the state in the function that is called, or None where no call is next."""
    if here.word != "call":
        return None
    forms = here.asked_forms(here.statement[3])
    frame = new_frame(here.program, here.statement[2], params_given(here), here.statement[1])
    frames = here.frames_with(here.terms, here.frame[2][1:]) + (frame,)
    return (here.to_refute(forms), [here.lay(frames, as_facts(forms), here.number, False)])


def by_by(here, contracts):
    """What a call by a contract has to refute and to show, and the state behind it, or None where there is none."""
    if here.word != "call":
        return None
    g = here.statement[2]
    found = [contract for contract in contracts if contract[0] == g]
    if len(found) == 0:
        return None
    forms = here.asked_forms(here.statement[3])
    names = names_by(here.program, g, params_given(here), "name")
    lists = here.to_refute(forms) + here.to_show(as_facts(forms), found[0][1], names)
    kind = function_of(here.program, g)[3]
    made = unknowns_from(here.program, kind, here.number)
    names.update(names_at(here.program, "name", "gives", kind, made[0]))
    terms = with_terms(here.terms, here.statement[1], made[0])
    frames = here.frames_with(terms, here.frame[2][1:])
    more = as_facts(forms) + [put_in(fact, names) for fact in found[0][2]]
    return (lists, [here.lay(frames, more, made[1], False)])


def laid_ways(here, terms, more, count, tasks):
    """The states behind a condition, tasks those of the last frame for True and for False."""
    told = []
    for truth, next_tasks in ((True, tasks[0]), (False, tasks[1])):
        shut = here.is_claimed("way", truth)
        frames = here.frames_with(terms, next_tasks)
        for forms in here.ways(terms, truth):
            told.append(here.lay(frames, more + as_facts(forms), count, shut))
    return told


def rounds_claims(here):
    """The bounds that rounds claims tell of the line that is next, in order."""
    return [claim[3] for claim in here.claims if claim[:3] == ("rounds",) + here.line]


def by_fork(here):
    """The states that a fork lays, or None where it is not right."""
    if here.word not in ("if", "while") or len(rounds_claims(here)) > 0:
        return None
    behind = here.frame[2][1:]
    bodies = [tasks_of(body) for body in numbered_bodies(here.line[1], here.statement)]
    if here.word == "if":
        tasks = (bodies[0] + behind, bodies[1] + behind)
    else:
        tasks = (bodies[0] + here.frame[2], behind)
    return ([], laid_ways(here, here.terms, [], here.number, tasks))


def set_in(statement):
    """The variables that a statement's bodies set, at any depth."""
    return [line[1] for line in within(statement) if line[0] in ("let", "call")]


def terms_anew(here):
    """The terms of the variables, those that a while's body sets being unknowns, and the count behind them."""
    changed = set_in(here.statement)
    kinds = variable_kinds(function_of(here.program, here.f))
    terms = here.terms
    count = here.number
    for x in list(kinds):
        if x in changed:
            made = unknowns_from(here.program, kinds[x], count)
            terms = with_terms(terms, x, made[0])
            count = made[1]
    return (terms, count)


def kept_names(program, f, terms, was, rounds):
    """The names that specs kept have, put by terms."""
    told = names_by(program, f, terms, "name")
    told.update(names_by(program, f, was, "was"))
    told[("rounds",)] = rounds
    return told


def by_keep(here, specs):
    """What keep has to show and to refute, and the states that it lays, or None where it is not right."""
    if here.word != "while" or not are_specs(here.program, here.f, "kept", specs):
        return None
    lists = here.to_show([], specs, kept_names(here.program, here.f, here.terms, here.terms, plain(0)))
    made = terms_anew(here)
    rounds = alone(("n", made[1]))
    anew = kept_names(here.program, here.f, made[0], here.terms, rounds)
    more = [("least", rounds)] + [put_in(spec, anew) for spec in specs]
    for bound in rounds_claims(here):
        beyond = not_of(above_by_one(put_in(bound, here.names()), rounds))
        for forms in here.ways(made[0], True):
            lists.append(here.facts + more + as_facts(list(forms) + [beyond]))
    body = tasks_of(numbered_bodies(here.line[1], here.statement)[0])
    tasks = (body + (("kept", here.line[1], specs, rounds, here.terms),), here.frame[2][1:])
    return (lists, laid_ways(here, made[0], more, made[1] + 1, tasks))


def by_kept(here):
    """What kept has to show, or None where it is not next."""
    if here.word != "kept":
        return None
    task = here.frame[2][0]
    names = kept_names(here.program, here.f, here.terms, task[4], added(task[3], plain(1)))
    return (here.to_show([], task[2], names), [])


def by_node(here, contracts, post, node):
    """What a node has to refute and the states that it lays, whatever their bounds, or None where it is not right."""
    head = node[0]
    if head == "never":
        return by_never(here)
    if head == "split":
        return by_split(here, node[1])
    if head == "new":
        return by_new(here, node[1], node[2])
    if head == "do":
        return by_do(here)
    if head == "gave":
        return by_gave(here, post)
    if head == "into":
        return by_into(here)
    if head == "by":
        return by_by(here, contracts)
    if head == "fork":
        return by_fork(here)
    return by_keep(here, node[1]) if head == "keep" else by_kept(here)


def is_bounded(state, ahead):
    """Whether the terms and facts that a state has, and the one ahead of it has not, are within their bounds."""
    if not all([is_fact(fact) for fact in state[1][len(ahead[1]):]]):
        return False
    for place, frame in enumerate(state[0]):
        held = ahead[0][place][1] if place < len(ahead[0]) else ()
        # Terms that stood there already were looked at when they came.
        for pair in frame[1]:
            if pair not in held and not all([is_form(term) or is_row_term(term) for term in pair[1]]):
                return False
    return True


def planned(program, claims, contracts, post, state, node):
    """What any plain thing as a node has to refute on a state, and the states that it lays; None where it isn't one."""
    if not is_node(node):
        return None
    if node[0] not in ("never", "split") and has_to_be_shut(claims, state):
        return None
    told = by_node(Standing(program, claims, state), contracts, post, node)
    if told is None or not all([is_bounded(one, state) for one in told[1]]):
        return None
    return told
