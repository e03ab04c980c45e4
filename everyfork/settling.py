"""Facts settled in a room: a model in which they hold, or a refutation of them."""

from everyfork.facts import first_miss, holds
from everyfork.forms import alone, len_of, less, not_of, plain
from everyfork.refuting import as_facts, forms_laid
from everyfork.rooms import at_least, at_most, choices_of, each_between
from everyfork.terms import stands_in, unknowns_in


def unknowns_of(facts):
    """The unknowns of facts, rising, each once."""
    told = []
    for fact in facts:
        told.extend(unknowns_in(fact))
    return sorted(set(told))


def room_of(room, unknown):
    """The least and the most that a room has for an unknown's numbers."""
    return (room[3], room[4]) if unknown[0] == "t" else (room[0], room[1])


def facts_of_room(unknowns, room):
    """The facts that unknowns are in a room, in the unknowns' order."""
    told = []
    for unknown in unknowns:
        ends = room_of(room, unknown)
        if unknown[0] == "n":
            told.extend([at_least(unknown, ends[0]), at_most(unknown, ends[1])])
        else:
            told.append(at_most(("len", unknown), room[2]))
            told.extend(each_between(unknown, room[2], ends[0], ends[1]))
    return told


def taken(many, more, often):
    """Numbers of facts with their times, and others so many times."""
    told = dict(many)
    for number, here in more.items():
        told[number] = told.get(number, 0) + often * here
    return told


class Branch:
    """A list of facts on the pile of a refutation that is being made.

    Things are pinned to values: each pin is (value, low, high), low telling which facts, how often, come together to
    the thing less the value, high to the value less the thing. Steps go behind those of all other branches.
    """

    def __init__(self, steps, known, pins, model, todo):
        self.steps = steps
        self.known = known
        self.pins = pins
        self.model = model
        # What is still to be told apart, the nearest last.
        self.todo = todo

    def twin(self):
        """A branch that goes another way from here on."""
        return Branch(self.steps, list(self.known), dict(self.pins), dict(self.model), list(self.todo))

    def worth(self, form):
        """The value of a form whose things are pinned."""
        return form[0] + sum([often * self.pins[thing][0] for thing, often in form[1]])

    def over(self, form):
        """Which facts, how often, come together to a form less its value."""
        told = {}
        for thing, often in form[1]:
            told = taken(told, self.pins[thing][1 if often > 0 else 2], abs(often))
        return told

    def under(self, form):
        """Which facts, how often, come together to the value of a form less the form."""
        told = {}
        for thing, often in form[1]:
            told = taken(told, self.pins[thing][2 if often > 0 else 1], abs(often))
        return told

    def shut_by(self, many):
        """End the branch by a sum."""
        self.steps.append(("sum", tuple(sorted(many.items()))))

    def shut_with(self, forms):
        """End the list with forms behind the facts, one of which comes below 0."""
        for place, form in enumerate(forms):
            if self.worth(form) < 0:
                self.shut_by(taken(self.under(form), {len(self.known) + place: 1}, 1))
                return

    def narrow(self, form, many):
        """Learn that a form is below 0, which facts so often, together with it from 0 on, refute."""
        self.steps.append(("split", form))
        self.shut_by(many)
        self.known.append(("least", not_of(form)))

    def pass_by(self, step):
        """Do a step all of whose lists but the last can be ended on the spot, and go on with the last one."""
        told = forms_laid(self.known, step)
        self.steps.append(step)
        for forms in told[:-1]:
            self.shut_with(forms)
        self.known.extend(as_facts(told[-1]))

    def equate(self, thing, step, form):
        """Pin a thing by a step that lays it to be the same as a form, whose things are pinned."""
        number = len(self.known)
        self.pass_by(step)
        low = taken(self.over(form), {number: 1}, 1)
        high = taken(self.under(form), {number + 1: 1}, 1)
        self.pins[thing] = (self.worth(form), low, high)

    def pin_all(self, form):
        """Pin all things of a form."""
        for pair in form[1]:
            if pair[0] not in self.pins:
                self.pin(pair[0])

    def pin(self, thing):
        """Pin a thing over unknowns that the model has."""
        self.pin_all(thing[1] if thing[0] == "div" else thing[2])
        if thing[0] == "div":
            self.pin_div(thing)
        elif 0 <= self.worth(thing[2]) < self.worth(len_of(thing[1])):
            self.pin_at(thing)
        else:
            self.equate(thing, ("out", thing[1], thing[2]), plain(0))

    def pin_div(self, thing):
        """Pin a quotient, what is divided being pinned."""
        form = thing[1]
        n = thing[2]
        quotient = self.worth(form) // n
        number = len(self.known)
        self.pass_by(("div", form, n))
        # Whole numbers lie between the two ends that a div tells: one step beyond each of them is refuted.
        below = taken(self.over(form), {number + 1: 1, number + 2: n}, 1)
        self.narrow(less(plain(quotient - 1), alone(thing)), below)
        above = taken(self.under(form), {number: 1, number + 3: n}, 1)
        self.narrow(less(alone(thing), plain(quotient + 1)), above)
        self.pins[thing] = (quotient, {number + 2: 1}, {number + 3: 1})

    def pin_at(self, thing):
        """Pin the number of a row term at a place that it has, the place being pinned."""
        row = thing[1]
        place = thing[2]
        where = self.worth(place)
        if row[0] in ("r", "t"):
            self.equate(thing, ("alike", row, place, plain(where)), alone(("at", row, plain(where))))
        elif row[0] == "rows":
            self.pin_by(thing, ("there", row, place, where), row[1][where])
        else:
            self.pin_changed(thing, where)

    def pin_changed(self, thing, where):
        """Pin the number at a place of a row with another number put in or behind."""
        row = thing[1]
        place = thing[2]
        there = len_of(row[1])
        if row[0] == "put":
            there = row[2]
            self.pin_all(there)
        if where == self.worth(there):
            self.pin_by(thing, ("there", row, place), row[-1])
        else:
            head = "below" if where < self.worth(there) else "above"
            self.pin_by(thing, (head, row, place), alone(("at", row[1], place)))

    def pin_by(self, thing, step, form):
        """Pin a thing by a step that lays it to be the same as a form."""
        self.pin_all(form)
        self.equate(thing, step, form)

    def refute(self, number):
        """End the branch by a fact that does not hold in the model, which has all unknowns of it."""
        fact = self.known[number]
        if fact[0] == "each":
            self.pin_all(fact[2])
            self.pin_all(fact[3])
            miss = ("each", number, plain(first_miss(fact, self.model)))
            number = len(self.known)
            self.pass_by(miss)
        form = self.known[number][1]
        self.pin_all(form)
        self.shut_by(taken(self.under(form), {number: 1}, 1))


def is_told(model, thing):
    """Whether a model has all unknowns of a thing."""
    return all([unknown in model for unknown in unknowns_in(alone(thing))])


def pin_ahead(branch, fact):
    """Pin the outermost things of a fact that can be pinned already: all branches behind this one share them."""
    waiting = [("fact", fact)]
    while waiting:
        task = waiting.pop()
        if task[0] != "thing" or not is_told(branch.model, task[1]):
            waiting.extend(stands_in(task[0], task[1]))
        elif task[1] not in branch.pins:
            branch.pin(task[1])


def checks_by(facts):
    """The numbers of facts by the last of their unknowns, None for those that have none."""
    told = {}
    for number, fact in enumerate(facts):
        unknowns = unknowns_in(fact)
        told.setdefault(unknowns[-1] if unknowns else None, []).append(number)
    return told


def first_wrong(facts, checks, model):
    """The number of the first fact that can be looked at behind a model's last unknown and does not hold, or None."""
    last = list(model)[-1] if model else None
    for number in checks.get(last, []):
        if not holds(facts[number], model):
            return number
    return None


def values_in(room, unknown):
    """All values of an unknown that are in a room."""
    if unknown[0] == "t":
        return [tuple([ord(sign) for sign in text]) for text in choices_of(room, "text")]
    return choices_of(room, "num" if unknown[0] == "n" else "row")


def with_each(model, unknown, choices):
    """A model with another unknown, for each of its values."""
    told = []
    for value in choices:
        longer = dict(model)
        longer[unknown] = value
        told.append(longer)
    return told


def note(needs, model, number):
    """Note of each beginning of a model that a fact is wrong behind it once more."""
    laid = list(model.values())
    for many in range(len(laid) + 1):
        held = needs.setdefault(tuple(laid[:many]), {})
        held[number] = held.get(number, 0) + 1


def searched(facts, checks, unknowns, room):
    """A model in which all facts hold, or None; and how often which facts are wrong behind each beginning of one."""
    needs = {}
    waiting = [{}]
    while waiting:
        model = waiting.pop()
        number = first_wrong(facts, checks, model)
        if number is not None:
            note(needs, model, number)
        elif len(model) == len(unknowns):
            return (model, needs)
        else:
            unknown = unknowns[len(model)]
            waiting.extend(with_each(model, unknown, values_in(room, unknown)))
    return (None, needs)


def tasks_of(unknowns, count, room):
    """What is to be told apart, the nearest last, the facts of the room being numbered from a count on."""
    told = [("check",)]
    for unknown in unknowns:
        if unknown[0] == "n":
            told.append(("range", unknown, count, room[0], count + 1, room[1]))
            count += 2
        else:
            told.append(("row", unknown, count))
            count += 3
        told.extend([("told", unknown), ("check",)])
    return list(reversed(told))


def by_range(branch, task):
    """The branches in which a thing between two ends, told by facts, is pinned to the low one, or is above it."""
    thing = task[1]
    low = task[3]
    if low > task[5]:
        branch.shut_by({task[2]: 1, task[4]: 1})
        return []
    if low == task[5]:
        branch.pins[thing] = (low, {task[2]: 1}, {task[4]: 1})
        return [branch]
    form = less(plain(low), alone(thing))
    number = len(branch.known)
    above = branch.twin()
    branch.steps.append(("split", form))
    branch.known.append(("least", form))
    branch.pins[thing] = (low, {task[2]: 1}, {number: 1})
    above.known.append(("least", not_of(form)))
    above.todo.append(("range", thing, number, low + 1, task[4], task[5]))
    return [branch, above]


def by_row(branch, task, room):
    """The branch in which the length of a row is to be told apart, then its numbers."""
    number = len(branch.known)
    branch.pass_by(("len", task[1]))
    branch.todo.append(("places", task[1], task[2]))
    branch.todo.append(("range", ("len", task[1]), number, 0, task[2], room[2]))
    return [branch]


def by_places(branch, task):
    """The branch in which all numbers of a row, whose length is pinned, are to be told apart."""
    told = []
    for place in range(branch.pins[("len", task[1])][0]):
        told.append(("place", task[1], len(branch.known), place))
        branch.pass_by(("each", task[2] + 1, plain(place)))
        branch.pass_by(("each", task[2] + 2, plain(place)))
    branch.todo.extend(list(reversed(told)))
    return [branch]


def by_place(branch, task, room):
    """The branches in which the number of a row at a place is to be told apart, facts telling both its ends."""
    row = task[1]
    number = task[2]
    place = plain(task[3])
    thing = ("at", row, place)
    ends = room_of(room, row)
    if not ends[0] <= 37 <= ends[1]:
        branch.todo.append(("range", thing, number, ends[0], number + 1, ends[1]))
        return [branch]
    step = ("sign", row[1], place)
    told = forms_laid(branch.known, step)
    branch.steps.append(step)
    branch.shut_with(told[0])
    branch.shut_with(told[1])
    count = len(branch.known)
    other = branch.twin()
    branch.known.extend(as_facts(told[2]))
    branch.todo.append(("range", thing, number, ends[0], count + 1, 36))
    other.known.extend(as_facts(told[3]))
    other.todo.append(("range", thing, count, 38, number + 1, ends[1]))
    return [branch, other]


def by_told(branch, unknown):
    """The branch with an unknown, which is pinned, in its model."""
    if unknown[0] == "n":
        branch.model[unknown] = branch.pins[unknown][0]
    else:
        places = list(range(branch.pins[("len", unknown)][0]))
        branch.model[unknown] = tuple([branch.pins[("at", unknown, plain(place))][0] for place in places])
    return [branch]


def by_check(branch, facts, checks, needs):
    """No branch where a fact that can be looked at now is wrong; else this one, with what several behind it need."""
    number = first_wrong(facts, checks, branch.model)
    if number is not None:
        branch.refute(number)
        return []
    for other, often in needs[tuple(branch.model.values())].items():
        if often > 1:
            pin_ahead(branch, facts[other])
    return [branch]


def refuted(facts, checks, needs, unknowns, room):
    """A refutation of facts that hold in no model of a room, with the room's behind them."""
    steps = []
    known = facts + facts_of_room(unknowns, room)
    pile = [Branch(steps, known, {}, {}, tasks_of(unknowns, len(facts), room))]
    while pile:
        branch = pile.pop()
        task = branch.todo.pop()
        if task[0] == "check":
            told = by_check(branch, facts, checks, needs)
        elif task[0] == "told":
            told = by_told(branch, task[1])
        elif task[0] == "range":
            told = by_range(branch, task)
        elif task[0] == "row":
            told = by_row(branch, task, room)
        else:
            told = by_places(branch, task) if task[0] == "places" else by_place(branch, task, room)
        pile.extend(list(reversed(told)))
    return tuple(steps)


def settled(facts, room):
    """A model of a room in which all facts hold, or a refutation of them with the room's behind them."""
    unknowns = unknowns_of(facts)
    checks = checks_by(facts)
    found = searched(facts, checks, unknowns, room)
    if found[0] is not None:
        return ("model", found[0])
    return ("refuted", refuted(facts, checks, found[1], unknowns, room))
