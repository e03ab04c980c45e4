"""Forms, row terms and facts in models."""


def number_at(row, place):
    """The number of a row at a place, 0 where there is no such place."""
    return row[place] if 0 <= place < len(row) else 0


def row_with(row, place, number):
    """A row with a number at a place, the row itself where there is no such place."""
    return row[:place] + (number,) + row[place + 1:] if 0 <= place < len(row) else row


def thing_in(thing, model):
    """The value of a thing in a model."""
    head = thing[0]
    if head == "len":
        return len(row_of(thing[1], model))
    if head == "at":
        return number_at(row_of(thing[1], model), value_of(thing[2], model))
    if head == "div":
        return value_of(thing[1], model) // thing[2]
    return model.get(thing, 0)


def value_of(form, model):
    """The value of a form in a model."""
    told = form[0]
    for thing, often in form[1]:
        told += often * thing_in(thing, model)
    return told


def row_of(row_term, model):
    """The row that a row term is in a model."""
    head = row_term[0]
    if head == "rows":
        return tuple([value_of(form, model) for form in row_term[1]])
    if head == "more":
        return row_of(row_term[1], model) + (value_of(row_term[2], model),)
    if head == "put":
        row = row_of(row_term[1], model)
        return row_with(row, value_of(row_term[2], model), value_of(row_term[3], model))
    return model.get(row_term, ())


def first_miss(fact, model):
    """The first place at which an each fact does not hold in a model, or None."""
    row = row_of(fact[1], model)
    first = max(0, value_of(fact[2], model))
    behind = min(len(row), value_of(fact[3], model))
    number = value_of(fact[6], model)
    for place in range(first, behind):
        if fact[4] * row[place] + fact[5] * place + number < 0:
            return place
    return None


def holds(fact, model):
    """Whether a fact holds in a model."""
    if fact[0] == "least":
        return value_of(fact[1], model) >= 0
    return first_miss(fact, model) is None
