"""Specs: facts over the names of variables; how names are put by terms, and how facts are shown."""

from everyfork.forms import above_by_one, alone, at_of, len_of, less, not_of, together
from everyfork.kinds import parts
from everyfork.programs import function_of, variable_kinds
from everyfork.refuting import as_facts
from everyfork.terms import is_fact, is_form, named_in, unknowns_in


def names_of(program, head, variables):
    """A dict from the names, by their head, of all parts of variables, (name, kind), to num or row."""
    told = {}
    for variable, kind in variables:
        for path, sort in parts(program, kind):
            told[(head, (variable,) + path)] = "num" if sort == "num" else "row"
    return told


def names_for(program, f, sort):
    """A dict from the names that specs of a sort may have to num or row, as which they stand."""
    function = function_of(program, f)
    if sort == "pre":
        return names_of(program, "name", function[1])
    if sort == "post":
        return names_of(program, "name", function[1] + (("gives", function[3]),))
    variables = function[1] + function[2]
    told = names_of(program, "name", variables)
    if sort == "kept":
        told.update(names_of(program, "was", variables))
        told[("rounds",)] = "num"
    return told


def has_names(thing, names):
    """Whether a form or fact has no unknowns, and no names but these, each as what it may stand."""
    if len(unknowns_in(thing)) > 0:
        return False
    return all([names.get(name) == sort for name, sort in named_in(thing)])


def is_spec(program, f, sort, thing):
    """Whether any plain thing is a spec of a sort (pre, post, now, kept) of a function."""
    return is_fact(thing) and has_names(thing, names_for(program, f, sort))


def are_specs(program, f, sort, thing):
    """Whether any plain thing is a tuple of specs of a sort of a function."""
    return isinstance(thing, tuple) and all([is_spec(program, f, sort, one) for one in thing])


def is_bound(program, f, thing):
    """Whether any plain thing is a bound of a function."""
    return is_form(thing) and has_names(thing, names_for(program, f, "now"))


def names_at(program, head, variable, kind, terms):
    """A dict from the names, by their head, of all parts of a variable to their terms."""
    told = {}
    for part, term in zip(parts(program, kind), terms):
        told[(head, (variable,) + part[0])] = term
    return told


def names_by(program, f, terms, head):
    """A dict from the names, by their head, of all parts of a function's variables to their terms."""
    kinds = variable_kinds(function_of(program, f))
    told = {}
    for variable, held in terms:
        told.update(names_at(program, head, variable, kinds[variable], held))
    return told


def facts_to_refute(facts, count, fact):
    """The facts whose refutation shows a fact of facts, all of whose unknowns are numbered below a count."""
    if fact[0] == "least":
        return facts + as_facts([not_of(fact[1])])
    row = fact[1]
    place = alone(("n", count))
    told = together([(at_of(row, place), fact[4]), (place, fact[5]), (fact[6], 1)])
    inside = [less(place, fact[2]), above_by_one(fact[3], place), place, above_by_one(len_of(row), place)]
    return facts + as_facts(inside + [not_of(told)])
