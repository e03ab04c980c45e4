"""Expressions and conditions reckoned by the values of variables."""

from everyfork.kinds import fields_of
from everyfork.shapes import inner_of, kind_in


def field_place(program, kind, field):
    """The place of a field among those of a record."""
    return [pair[0] for pair in fields_of(program, kind)].index(field)


def of_record(program, kinds, e, inner):
    """The value of an of or a with."""
    place = field_place(program, kind_in(program, kinds, e[1]), e[2])
    record = inner[0]
    if e[0] == "of":
        return record[place]
    return record[:place] + (inner[1],) + record[place + 1:]


def of_place(word, inner):
    """The value of an at or a put, or None where there is no such place."""
    place = inner[1]
    if not 0 <= place < len(inner[0]):
        return None
    if word == "put":
        return inner[0][:place] + (inner[2],) + inner[0][place + 1:]
    told = inner[0][place]
    return ord(told) if isinstance(told, str) else told


def of_numbers(e, inner):
    """The value of a word that goes from numbers to a number."""
    word = e[0]
    if word == "add":
        return inner[0] + inner[1]
    if word == "sub":
        return inner[0] - inner[1]
    if word == "times":
        return e[1] * inner[0]
    if word == "div":
        return inner[0] // e[2]
    return inner[0] % e[2]


def reckoned(program, kinds, held, e):
    """The value of an expression, held a dict of the variables' values, or None where it breaks its line."""
    inner = []
    for one in inner_of(e):
        value = reckoned(program, kinds, held, one)
        if value is None:
            return None
        inner.append(value)
    word = e[0]
    if word in ("num", "text"):
        return e[1]
    if word == "var":
        return held[e[1]]
    if word in ("of", "with"):
        return of_record(program, kinds, e, inner)
    if word in ("new", "rows"):
        return tuple(inner)
    if word in ("at", "put"):
        return of_place(word, inner)
    if word == "len":
        return len(inner[0])
    if word == "more":
        return inner[0] + (inner[1],)
    if word == "signs":
        return tuple([ord(sign) for sign in inner[0]])
    return of_numbers(e, inner)


def truth_of(program, kinds, held, c):
    """Whether a condition holds, held a dict of the variables' values."""
    word = c[0]
    if word in ("less", "same"):
        numbers = [reckoned(program, kinds, held, e) for e in inner_of(c)]
        return numbers[0] < numbers[1] if word == "less" else numbers[0] == numbers[1]
    truths = [truth_of(program, kinds, held, one) for one in inner_of(c)]
    if word == "and":
        return truths[0] and truths[1]
    if word == "or":
        return truths[0] or truths[1]
    return not truths[0]
