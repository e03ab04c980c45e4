"""Values told by terms: unknowns and noughts of kinds, and what expressions come to and ask."""

from everyfork.forms import added, alone, at_of, div_of, len_of, less, plain, times
from everyfork.kinds import fields_of, parts
from everyfork.programs import kind_of
from everyfork.shapes import inner_of

UNKNOWNS = {"row": "r", "text": "t"}


def unknowns_from(program, kind, count):
    """The terms of a kind that are unknowns, numbered from a count on, and the count behind them."""
    told = []
    for path, sort in parts(program, kind):
        told.append(alone(("n", count)) if sort == "num" else (UNKNOWNS[sort], count))
        count += 1
    return (tuple(told), count)


def noughts(program, kind):
    """The terms of a kind's nought."""
    return tuple([plain(0) if pair[1] == "num" else ("rows", ()) for pair in parts(program, kind)])


def place_of(program, kind, field):
    """Where the parts of a field begin among those of its record, and where they end."""
    place = 0
    for name, inner in fields_of(program, kind):
        behind = place + len(parts(program, inner))
        if name == field:
            return (place, behind)
        place = behind
    return None


def of_field(program, f, e, inner):
    """The terms of an of or a with by those of what stands within."""
    place = place_of(program, kind_of(program, f, e[1]), e[2])
    if e[0] == "of":
        return inner[0][place[0]:place[1]]
    return inner[0][:place[0]] + inner[1] + inner[0][place[1]:]


def one_behind_other(inner):
    """The terms of several, one behind the other."""
    told = ()
    for terms in inner:
        told += terms
    return told


def of_numbers(e, first):
    """The form of a word that goes from numbers to a number, first the terms within, one behind the other."""
    word = e[0]
    if word == "add":
        return added(first[0], first[1])
    if word == "sub":
        return less(first[0], first[1])
    if word == "times":
        return times(first[0], e[1])
    quotient = div_of(first[0], e[2])
    return quotient if word == "div" else less(first[0], times(quotient, e[2]))


def by_inner(program, f, terms, e, inner):
    """The terms of an expression by those of what stands within."""
    word = e[0]
    first = one_behind_other(inner)
    if word == "num":
        return (plain(e[1]),)
    if word == "text":
        return (("rows", tuple([plain(ord(sign)) for sign in e[1]])),)
    if word == "var":
        return dict(terms)[e[1]]
    if word in ("of", "with"):
        return of_field(program, f, e, inner)
    if word in ("new", "signs"):
        return first
    if word == "rows":
        return (("rows", first),)
    if word in ("put", "more"):
        return ((word,) + first,)
    if word == "len":
        return (len_of(first[0]),)
    return (at_of(first[0], first[1]),) if word == "at" else (of_numbers(e, first),)


def terms_of(program, f, terms, e):
    """The terms of an expression by those of the variables."""
    inner = [terms_of(program, f, terms, one) for one in inner_of(e)]
    return by_inner(program, f, terms, e, inner)


def asked_by(program, f, terms, e):
    """The forms that an expression asks, in the order of its reckoning."""
    told = []
    for one in inner_of(e):
        told.extend(asked_by(program, f, terms, one))
    if e[0] in ("at", "put"):
        row = terms_of(program, f, terms, e[1])[0]
        place = terms_of(program, f, terms, e[2])[0]
        told.extend([place, less(less(len_of(row), place), plain(1))])
    return told
