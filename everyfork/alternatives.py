"""The alternatives of conditions: forms that are all 0 or more just where a condition has a truth."""

from everyfork.forms import above_by_one, both_ways, less
from everyfork.stating import terms_of


def of_compared(word, one, other, truth):
    """The alternatives of a less or a same of two forms."""
    if word == "less":
        return [(above_by_one(other, one),)] if truth else [(less(one, other),)]
    if truth:
        return [tuple(both_ways(one, other))]
    return [(above_by_one(one, other),), (above_by_one(other, one),)]


def each_with_each(firsts, seconds):
    """Each of the first alternatives with each of the second ones, the first one's forms ahead."""
    told = []
    for first in firsts:
        told.extend([first + second for second in seconds])
    return told


def alternatives(program, f, terms, c, truth):
    """The alternatives of a condition for a truth, a list of tuples of forms."""
    word = c[0]
    if word in ("less", "same"):
        one = terms_of(program, f, terms, c[1])[0]
        other = terms_of(program, f, terms, c[2])[0]
        return of_compared(word, one, other, truth)
    if word == "not":
        return alternatives(program, f, terms, c[1], not truth)
    firsts = alternatives(program, f, terms, c[1], truth)
    seconds = alternatives(program, f, terms, c[2], truth)
    if truth == (word == "and"):
        return each_with_each(firsts, seconds)
    others = alternatives(program, f, terms, c[1], not truth)
    return firsts + each_with_each(others, seconds)
