"""Values of kinds: which things are such, the nought, and values laid flat."""

from everyfork.kinds import PLAIN_KINDS, fields_of, is_text, is_whole, parts

NOUGHTS = {"num": 0, "text": "", "row": ()}


def is_value(program, kind, thing):
    """Whether any thing is a value of a kind."""
    if kind == "num":
        return is_whole(thing)
    if kind == "text":
        return is_text(thing)
    if not isinstance(thing, tuple):
        return False
    if kind == "row":
        return all([is_whole(number) for number in thing])
    fields = fields_of(program, kind)
    if len(thing) != len(fields):
        return False
    return all([is_value(program, field[1], value) for field, value in zip(fields, thing)])


def nought(program, kind):
    """The nought of a kind."""
    if kind in NOUGHTS:
        return NOUGHTS[kind]
    return tuple([nought(program, field[1]) for field in fields_of(program, kind)])


def flat(program, kind, value):
    """The tuple of the values of a value's parts, in order."""
    if kind in PLAIN_KINDS:
        return (value,)
    told = []
    for field, inner in zip(fields_of(program, kind), value):
        told.extend(flat(program, field[1], inner))
    return tuple(told)


def unflat(program, kind, values):
    """The value of a kind that is laid flat as values."""
    if kind in PLAIN_KINDS:
        return values[0]
    told = []
    place = 0
    for field in fields_of(program, kind):
        behind = place + len(parts(program, field[1]))
        told.append(unflat(program, field[1], values[place:behind]))
        place = behind
    return tuple(told)
