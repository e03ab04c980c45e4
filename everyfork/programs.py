"""Right programs, their functions, lines and spots."""

from everyfork.errors import NoProgram
from everyfork.kinds import PLAIN_KINDS, is_name, parts
from everyfork.shapes import expression_kind, is_condition, is_shaped, kind_in, may_break, named_kind

MOST_RECORDS = 4
MOST_FUNCTIONS = 6
MOST_FIELDS = 4
MOST_PARTS = 8
MOST_PARAMS = 4
MOST_LOCALS = 6
MOST_LINES = 30
MOST_DEEP = 5


def function_of(program, f):
    """The function of a name, or None where there is none."""
    for function in program[1]:
        if function[0] == f:
            return function
    return None


def variable_kinds(function):
    """A dict from a function's params and locals, in order, to their kinds."""
    return dict(function[1] + function[2])


def kind_of(program, f, e):
    """The kind of an expression that is right in a function."""
    return kind_in(program, variable_kinds(function_of(program, f)), e)


def bodies_of(statement):
    """The bodies that stand straight within a statement, in order."""
    if statement[0] == "if":
        return [statement[2], statement[3]]
    if statement[0] == "while":
        return [statement[2]]
    return []


def lines_in(body):
    """The statements of a body, at any depth, as written."""
    told = []
    waiting = list(reversed(body))
    while waiting:
        statement = waiting.pop()
        told.append(statement)
        for inner in reversed(bodies_of(statement)):
            waiting.extend(list(reversed(inner)))
    return told


def lines_of(function):
    """The statements of a function by their numbers."""
    return lines_in(function[4])


def within(statement):
    """The lines of a statement's bodies, at any depth, as written."""
    told = []
    for body in bodies_of(statement):
        told.extend(lines_in(body))
    return told


def numbered(body, first):
    """The statements of a body itself with their numbers, first being that of the first one."""
    told = []
    number = first
    for statement in body:
        told.append((number, statement))
        number += 1 + len(within(statement))
    return told


def numbered_bodies(k, statement):
    """The bodies of the line k with the numbers of their own statements."""
    told = []
    first = k + 1
    for body in bodies_of(statement):
        told.append(numbered(body, first))
        first += len(lines_in(body))
    return told


def spots_of_line(f, k, statement):
    """The spots of one line."""
    word = statement[0]
    told = [("line", f, k)]
    if word in ("if", "while"):
        told.extend([("way", f, k, True), ("way", f, k, False)])
    elif word == "say":
        told.append(("breaks", f, k, statement[1]))
    elif may_break(statement):
        told.append(("breaks", f, k, "range"))
    return told


def spots_of(program):
    """The spots of a program, function by function, line by line."""
    told = []
    for function in program[1]:
        for k, statement in enumerate(lines_of(function)):
            told.extend(spots_of_line(function[0], k, statement))
    return told


def is_tuple_of(thing, least, most):
    """Whether any thing is a tuple of from least to most things."""
    return isinstance(thing, tuple) and least <= len(thing) <= most


def is_kind(records, thing):
    """Whether any thing is a kind that there is."""
    return isinstance(thing, str) and (thing in PLAIN_KINDS or thing in [record[0] for record in records])


def are_named(records, thing, least, most):
    """Whether any thing is a tuple of so many pairs of unlike names and kinds that there are."""
    if not is_tuple_of(thing, least, most):
        return False
    for pair in thing:
        if not is_tuple_of(pair, 2, 2) or not is_name(pair[0]) or not is_kind(records, pair[1]):
            return False
    return len(set([pair[0] for pair in thing])) == len(thing)


def is_record(ahead, thing):
    """Whether any thing is a right record behind the records ahead."""
    if not is_tuple_of(thing, 2, 2) or not is_name(thing[0]):
        return False
    if thing[0] in [record[0] for record in ahead] or not are_named(ahead, thing[1], 1, MOST_FIELDS):
        return False
    return len(parts((ahead + (thing,), ()), thing[0])) <= MOST_PARTS


def are_records(thing):
    """Whether any thing is a tuple of right records."""
    if not is_tuple_of(thing, 0, MOST_RECORDS):
        return False
    for place, record in enumerate(thing):
        if not is_record(thing[:place], record):
            return False
    return True


def is_headed(records, ahead, thing):
    """Whether any thing is right as a function, its lines aside, behind the functions ahead."""
    if not is_tuple_of(thing, 5, 5) or not is_name(thing[0]) or not isinstance(thing[4], tuple):
        return False
    if thing[0] in [function[0] for function in ahead] or not is_kind(records, thing[3]):
        return False
    if not are_named(records, thing[1], 0, MOST_PARAMS) or not are_named(records, thing[2], 0, MOST_LOCALS):
        return False
    names = [pair[0] for pair in thing[1] + thing[2]]
    return len(set(names)) == len(names)


def is_call(program, kinds, statement):
    """Whether a statement shaped as a call is right."""
    function = function_of(program, statement[2])
    if function is None or named_kind(kinds, statement[1]) != function[3]:
        return False
    told = [expression_kind(program, kinds, e) for e in statement[3]]
    return told == [param[1] for param in function[1]]


def is_line(program, function, thing):
    """Whether any thing is right as a line of a function, the lines within it aside."""
    if not is_shaped(thing, "statement"):
        return False
    kinds = variable_kinds(function)
    word = thing[0]
    if word == "let":
        kind = named_kind(kinds, thing[1])
        return kind is not None and expression_kind(program, kinds, thing[2]) == kind
    if word == "give":
        return expression_kind(program, kinds, thing[1]) == function[3]
    if word == "call":
        return is_call(program, kinds, thing)
    if word == "say":
        return is_name(thing[1]) and is_condition(program, kinds, thing[2])
    return is_condition(program, kinds, thing[1]) and all([isinstance(body, tuple) for body in bodies_of(thing)])


def first_wrong_line(program, function):
    """The number of a function's first line that is not right, or None where all are."""
    waiting = [(thing, 1) for thing in reversed(function[4])]
    k = 0
    while waiting:
        task = waiting.pop()
        deep = task[1]
        if k == MOST_LINES or deep > MOST_DEEP or not is_line(program, function, task[0]):
            return k
        for body in reversed(bodies_of(task[0])):
            waiting.extend([(thing, deep + 1) for thing in reversed(body)])
        k += 1
    return None


def right_program(thing):
    """True of a right program; any other thing is refused."""
    if not is_tuple_of(thing, 2, 2) or not are_records(thing[0]) or not is_tuple_of(thing[1], 1, MOST_FUNCTIONS):
        raise NoProgram(-1, -1)
    for number, function in enumerate(thing[1]):
        if not is_headed(thing[0], thing[1][:number], function):
            raise NoProgram(number, -1)
    for number, function in enumerate(thing[1]):
        k = first_wrong_line(thing, function)
        if k is not None:
            raise NoProgram(number, k)
    return True
