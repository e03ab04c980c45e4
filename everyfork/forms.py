"""Forms made of others, and things put for names."""

from everyfork.kinds import is_whole


def plain(number):
    """The form of a number."""
    return (number, ())


def alone(thing):
    """The form of a thing, once."""
    return (0, ((thing, 1),))


def together(many):
    """The sum of forms, each so many times, many a list of (form, how often)."""
    number = 0
    held = {}
    for form, often in many:
        number += often * form[0]
        for thing, here in form[1]:
            held[thing] = held.get(thing, 0) + often * here
    return (number, tuple(sorted([pair for pair in held.items() if pair[1] != 0])))


def added(one, other):
    """The sum of two forms."""
    return together([(one, 1), (other, 1)])


def times(form, number):
    """A form so many times."""
    return together([(form, number)])


def less(one, other):
    """One form less another."""
    return together([(one, 1), (other, -1)])


def not_of(form):
    """The form that is 0 or more just where this one is not."""
    return less(plain(-1), form)


def above_by_one(one, other):
    """The form that is 0 or more just where one form is above another."""
    return together([(one, 1), (other, -1), (plain(1), -1)])


def both_ways(one, other):
    """The two forms that are both 0 or more just where two forms are the same."""
    return [less(one, other), less(other, one)]


def len_of(row_term):
    """The form of a row term's length."""
    behind = 0
    while row_term[0] in ("put", "more"):
        if row_term[0] == "more":
            behind += 1
        row_term = row_term[1]
    if row_term[0] == "rows":
        return plain(len(row_term[1]) + behind)
    return added(alone(("len", row_term)), plain(behind))


def is_number(form):
    """Whether a form is that of a plain number."""
    return len(form[1]) == 0


def at_of(row_term, form):
    """The form of a row term's number at a place."""
    if row_term[0] != "rows" or not is_number(form):
        return alone(("at", row_term, form))
    if 0 <= form[0] < len(row_term[1]):
        return row_term[1][form[0]]
    return plain(0)


def div_of(form, n):
    """The form of a form's quotient by n."""
    return plain(form[0] // n) if is_number(form) else alone(("div", form, n))


def put_in_thing(thing, names):
    """The form of a thing with forms and row terms put for names."""
    head = thing[0]
    if head == "len":
        return len_of(put_in_row(thing[1], names))
    if head == "at":
        return at_of(put_in_row(thing[1], names), put_in_form(thing[2], names))
    if head == "div":
        return div_of(put_in_form(thing[1], names), thing[2])
    return names[thing] if thing in names else alone(thing)


def put_in_form(form, names):
    """A form with forms and row terms put for names."""
    many = [(plain(form[0]), 1)]
    for thing, often in form[1]:
        many.append((put_in_thing(thing, names), often))
    return together(many)


def put_in_row(row_term, names):
    """A row term with forms and row terms put for names."""
    head = row_term[0]
    if head == "rows":
        return ("rows", tuple([put_in_form(form, names) for form in row_term[1]]))
    if head in ("put", "more"):
        inner = put_in_row(row_term[1], names)
        return (head, inner) + tuple([put_in_form(form, names) for form in row_term[2:]])
    return names.get(row_term, row_term)


def put_in(thing, names):
    """A form, row term or fact with forms and row terms put for all names that the dict has, at once."""
    head = thing[0]
    if is_whole(head):
        return put_in_form(thing, names)
    if head == "least":
        return ("least", put_in_form(thing[1], names))
    if head != "each":
        return put_in_row(thing, names)
    ends = (put_in_form(thing[2], names), put_in_form(thing[3], names))
    return ("each", put_in_row(thing[1], names)) + ends + (thing[4], thing[5], put_in_form(thing[6], names))
