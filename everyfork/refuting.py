"""Refutations: what their steps lay, and whether they refute a list of facts."""

from everyfork.forms import above_by_one, alone, both_ways, len_of, less, not_of, plain, together
from everyfork.kinds import is_whole
from everyfork.terms import is_count, is_divisor, is_form, is_row_term

# Of a step's head and length: the sorts of what stands behind the head.
FIELDS = {
    ("sum", 2): ("many",),
    ("split", 2): ("form",),
    ("each", 3): ("count", "form"),
    ("len", 2): ("row",),
    ("div", 3): ("form", "divisor"),
    ("sign", 3): ("count", "form"),
    ("alike", 4): ("row", "form", "form"),
    ("out", 3): ("row", "form"),
    ("below", 3): ("row", "form"),
    ("above", 3): ("row", "form"),
    ("there", 3): ("row", "form"),
    ("there", 4): ("row", "form", "count"),
}


def is_often(thing):
    """Whether any thing is (number, times), as a sum has them."""
    if not isinstance(thing, tuple) or len(thing) != 2:
        return False
    return is_count(thing[0]) and is_whole(thing[1]) and thing[1] >= 1


def are_many(thing):
    """Whether any thing is a tuple of (number, times), the numbers rising."""
    if not isinstance(thing, tuple) or not all([is_often(pair) for pair in thing]):
        return False
    return all([one[0] < other[0] for one, other in zip(thing, thing[1:])])


def is_field(sort, thing):
    """Whether any thing is of a sort that steps have."""
    if sort == "form":
        return is_form(thing)
    if sort == "row":
        return is_row_term(thing)
    if sort == "divisor":
        return is_divisor(thing)
    return are_many(thing) if sort == "many" else is_count(thing)


def is_step(thing):
    """Whether any thing is a step by the kinds of what stands in it, whatever facts there are."""
    if not isinstance(thing, tuple) or len(thing) == 0 or not isinstance(thing[0], str):
        return False
    sorts = FIELDS.get((thing[0], len(thing)))
    return sorts is not None and all([is_field(sort, one) for sort, one in zip(sorts, thing[1:])])


def at_alone(row_term, form):
    """The number of a row term at a place, as such alone."""
    return alone(("at", row_term, form))


def has_fact(facts, number, head):
    """Whether a list has a fact of this number and head."""
    return number < len(facts) and facts[number][0] == head


def by_sum(facts, step):
    """What a sum lays: nothing."""
    if not all([has_fact(facts, pair[0], "least") for pair in step[1]]):
        return None
    told = together([(facts[pair[0]][1], pair[1]) for pair in step[1]])
    return [] if len(told[1]) == 0 and told[0] < 0 else None


def by_split(step):
    """The forms of the lists that a split lays."""
    return [[step[1]], [not_of(step[1])]]


def by_each(facts, step):
    """The forms of the lists that an each lays."""
    if not has_fact(facts, step[1], "each"):
        return None
    fact = facts[step[1]]
    row = fact[1]
    place = step[2]
    told = together([(at_alone(row, place), fact[4]), (place, fact[5]), (fact[6], 1)])
    outside = [not_of(less(place, fact[2])), less(place, fact[3]), not_of(place), less(place, len_of(row))]
    return [[form] for form in outside] + [[told]]


def by_len(step):
    """The forms of the list that a len lays."""
    return [[alone(("len", step[1]))]] if step[1][0] in ("r", "t") else None


def by_div(step):
    """The forms of the list that a div lays."""
    form = step[1]
    n = step[2]
    quotient = alone(("div", form, n))
    return [[together([(form, 1), (quotient, -n)]), together([(quotient, n), (plain(n - 1), 1), (form, -1)])]]


def by_sign(step):
    """The forms of the lists that a sign lays."""
    text = ("t", step[1])
    place = step[2]
    sign = at_alone(text, place)
    low = [less(sign, plain(32)), less(plain(36), sign)]
    high = [less(sign, plain(38)), less(plain(126), sign)]
    return [[not_of(place)], [less(place, len_of(text))], low, high]


def by_alike(step):
    """The forms of the lists that an alike lays."""
    same = both_ways(at_alone(step[1], step[2]), at_alone(step[1], step[3]))
    return [[above_by_one(step[2], step[3])], [above_by_one(step[3], step[2])], same]


def by_out(step):
    """The forms of the lists that an out lays."""
    row = step[1]
    place = step[2]
    return [[place, above_by_one(len_of(row), place)], both_ways(at_alone(row, place), plain(0))]


def by_below(step):
    """The forms of the lists that a below lays."""
    row = step[1]
    place = step[2]
    if row[0] not in ("put", "more"):
        return None
    outside = not_of(above_by_one(row[2], place)) if row[0] == "put" else less(place, len_of(row[1]))
    return [[outside], both_ways(at_alone(row, place), at_alone(row[1], place))]


def by_above(step):
    """The forms of the lists that an above lays."""
    row = step[1]
    place = step[2]
    if row[0] != "put":
        return None
    return [[not_of(above_by_one(place, row[2]))], both_ways(at_alone(row, place), at_alone(row[1], place))]


def by_there(step):
    """The forms of the lists that a there lays."""
    row = step[1]
    place = step[2]
    # Rows want a place named, and they alone.
    if (row[0] == "rows") != (len(step) == 4) or row[0] not in ("put", "more", "rows"):
        return None
    if row[0] == "rows" and step[3] >= len(row[1]):
        return None
    outside = []
    if row[0] == "rows":
        there = plain(step[3])
        told = row[1][step[3]]
    elif row[0] == "more":
        there = len_of(row[1])
        told = row[2]
    else:
        there = row[2]
        told = row[3]
        outside = [[not_of(there)], [less(there, len_of(row[1]))]]
    unlike = [[above_by_one(place, there)], [above_by_one(there, place)]]
    return unlike + outside + [both_ways(at_alone(row, place), told)]


def by_place(step):
    """The forms of the lists that a step lays which tells of a row term at a place."""
    head = step[0]
    if head == "alike":
        return by_alike(step)
    if head == "out":
        return by_out(step)
    if head == "below":
        return by_below(step)
    return by_above(step) if head == "above" else by_there(step)


def forms_laid(facts, step):
    """For each list that a step lays on a list of facts the forms behind its own facts; None where it is not right."""
    if not is_step(step):
        return None
    head = step[0]
    if head == "sum":
        return by_sum(facts, step)
    if head == "each":
        return by_each(facts, step)
    if head == "split":
        return by_split(step)
    if head == "len":
        return by_len(step)
    if head == "div":
        return by_div(step)
    return by_sign(step) if head == "sign" else by_place(step)


def as_facts(forms):
    """The least facts of forms."""
    return [("least", form) for form in forms]


def laid(facts, step):
    """The lists of facts that any plain thing lays as a step, or None where it is not right for the list."""
    told = forms_laid(facts, step)
    if told is None:
        return None
    return [facts + as_facts(forms) for forms in told]


def refutes(facts, thing):
    """Whether any plain thing is a right refutation of a list of facts."""
    if not isinstance(thing, tuple):
        return False
    held = list(facts)
    # Each list on the pile begins like the one under way: only how far, and what is behind that, is kept of it.
    pile = [(len(held), [])]
    for step in thing:
        if len(pile) == 0:
            return False
        top = pile.pop()
        while len(held) > top[0]:
            held.pop()
        held.extend(as_facts(top[1]))
        told = forms_laid(held, step)
        if told is None:
            return False
        pile.extend([(len(held), forms) for forms in reversed(told)])
    return len(pile) == 0
