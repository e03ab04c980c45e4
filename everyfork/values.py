"""Values of kinds: which things are such, the nought, and values laid flat."""

from everyfork.kinds import PLAIN_KINDS, field_kinds, is_text, is_whole, parts

NOUGHTS = {"num": 0, "text": "", "row": ()}


def is_value(program, kind, thing):
    """Whether any thing is a value of a kind."""
    if kind == "num":
        return is_whole(thing)
    if kind == "text":
        return is_text(thing)
    if kind == "row":
        return isinstance(thing, tuple) and all([is_whole(number) for number in thing])
    return are_values(program, field_kinds(program, kind), thing)


def are_values(program, kinds, thing):
    """Whether any thing is a tuple of values of these kinds, just as many."""
    if not isinstance(thing, tuple) or len(thing) != len(kinds):
        return False
    return all([is_value(program, kind, value) for kind, value in zip(kinds, thing)])


def nought(program, kind):
    """The nought of a kind."""
    if kind in NOUGHTS:
        return NOUGHTS[kind]
    return tuple([nought(program, inner) for inner in field_kinds(program, kind)])


def flat_all(program, kinds, values):
    """The tuple of the parts of values of these kinds, one behind the other."""
    told = []
    for kind, value in zip(kinds, values):
        told.extend(flat(program, kind, value))
    return tuple(told)


def flat(program, kind, value):
    """The tuple of the values of a value's parts, in order."""
    if kind in PLAIN_KINDS:
        return (value,)
    return flat_all(program, field_kinds(program, kind), value)


def unflat_all(program, kinds, laid):
    """The tuple of values of these kinds whose parts, one behind the other, are these."""
    told = []
    place = 0
    for kind in kinds:
        behind = place + len(parts(program, kind))
        told.append(unflat(program, kind, laid[place:behind]))
        place = behind
    return tuple(told)


def unflat(program, kind, values):
    """The value of a kind that is laid flat as values."""
    if kind in PLAIN_KINDS:
        return values[0]
    return unflat_all(program, field_kinds(program, kind), values)
