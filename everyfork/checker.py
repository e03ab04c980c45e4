"""The small checker: whether a paper is let by. It seeks nothing."""

from everyfork.kinds import is_whole
from everyfork.programs import function_of, lines_of, spots_of
from everyfork.refuting import refutes
from everyfork.specs import are_specs, is_bound
from everyfork.terms import is_count
from everyfork.walking import first_state, planned, refs_of


def is_function_name(program, thing):
    """Whether any plain thing is the name of a function."""
    return isinstance(thing, str) and function_of(program, thing) is not None


def is_spot(spots, thing):
    """Whether any plain thing is one of the spots of a program."""
    # Python takes 1 for True: so equal things may still be of other kinds.
    if thing not in spots or not is_whole(thing[2]):
        return False
    return thing[0] != "way" or isinstance(thing[3], bool)


def is_rounds(program, thing):
    """Whether any plain thing is a claim of a while's rounds."""
    if not isinstance(thing, tuple) or len(thing) != 4 or thing[0] != "rounds":
        return False
    if not is_function_name(program, thing[1]) or not is_count(thing[2]):
        return False
    lines = lines_of(function_of(program, thing[1]))
    if thing[2] >= len(lines) or lines[thing[2]][0] != "while":
        return False
    return is_bound(program, thing[1], thing[3])


def are_claims(program, thing):
    """Whether any plain thing is a tuple of claims."""
    if not isinstance(thing, tuple):
        return False
    spots = spots_of(program)
    return all([is_spot(spots, claim) or is_rounds(program, claim) for claim in thing])


def is_contract(program, thing):
    """Whether any plain thing is a contract, its nodes any tuple."""
    if not isinstance(thing, tuple) or len(thing) != 4 or not is_function_name(program, thing[0]):
        return False
    if not are_specs(program, thing[0], "pre", thing[1]) or not are_specs(program, thing[0], "post", thing[2]):
        return False
    return isinstance(thing[3], tuple)


def are_contracts(program, thing):
    """Whether any plain thing is a tuple of contracts of unlike functions."""
    if not isinstance(thing, tuple) or not all([is_contract(program, contract) for contract in thing]):
        return False
    return len(set([contract[0] for contract in thing])) == len(thing)


def is_paper(program, thing):
    """Whether any plain thing is a paper by its kinds, its nodes any tuple."""
    if not isinstance(thing, tuple) or len(thing) != 5 or not is_function_name(program, thing[0]):
        return False
    if not are_specs(program, thing[0], "pre", thing[1]) or not are_claims(program, thing[2]):
        return False
    return are_contracts(program, thing[3]) and isinstance(thing[4], tuple)


def are_refuted(lists, refs):
    """Whether lists of facts are refuted one by one, just as many."""
    return len(lists) == len(refs) and all([refutes(facts, one) for facts, one in zip(lists, refs)])


def are_right(program, claims, contracts, post, state, nodes):
    """Whether nodes are right from a state on, and just as many as there have to be."""
    pile = [state]
    for node in nodes:
        if len(pile) == 0:
            return False
        told = planned(program, claims, contracts, post, pile.pop(), node)
        if told is None or not are_refuted(told[0], refs_of(node)):
            return False
        pile.extend(list(reversed(told[1])))
    return len(pile) == 0


def lets_by(program, thing):
    """Whether any plain thing is a paper of a right program that is right."""
    if not is_paper(program, thing):
        return False
    claims = thing[2]
    contracts = thing[3]
    if not are_right(program, claims, contracts, (), first_state(program, thing[0], thing[1]), thing[4]):
        return False
    for g, pre, post, nodes in contracts:
        if not are_right(program, claims, contracts, post, first_state(program, g, pre), nodes):
            return False
    return True
