"""Rooms: the inputs that they have, in order, and the facts that tell them."""

from everyfork.kinds import is_between, is_sign_number, parts, sign_of
from everyfork.programs import function_of
from everyfork.values import are_values, flat_all, unflat_all


def is_room(thing):
    """Whether any thing is a room."""
    if not isinstance(thing, tuple) or len(thing) != 5:
        return False
    if not is_between(thing[0], -9, 9) or not is_between(thing[1], thing[0], 9):
        return False
    return is_between(thing[2], 0, 3) and is_between(thing[3], 32, 126) and is_between(thing[4], thing[3], 126)


def param_kinds(program, f):
    """The kinds of a function's params, in order."""
    return [param[1] for param in function_of(program, f)[1]]


def param_parts(program, f):
    """The parts of a function's params, in order, as (path, sort), path beginning with the param."""
    told = []
    for param in function_of(program, f)[1]:
        for path, sort in parts(program, param[1]):
            told.append(((param[0],) + path, sort))
    return told


def is_part_in(room, sort, part):
    """Whether the value of a part is in a room."""
    if sort == "num":
        return room[0] <= part <= room[1]
    if len(part) > room[2]:
        return False
    if sort == "row":
        return all([room[0] <= number <= room[1] for number in part])
    return all([room[3] <= ord(sign) <= room[4] for sign in part])


def in_room(program, f, room, thing):
    """Whether any thing is an input of a function by a room."""
    kinds = param_kinds(program, f)
    if not are_values(program, kinds, thing):
        return False
    laid = flat_all(program, kinds, thing)
    return all([is_part_in(room, pair[1], part) for pair, part in zip(param_parts(program, f), laid)])


def numbers_of(room):
    """The numbers of a room, rising."""
    return list(range(room[0], room[1] + 1))


def signs_of(room):
    """The signs of a room, rising."""
    return [sign_of(number) for number in range(room[3], room[4] + 1) if is_sign_number(number)]


def up_to_long(void, choices, long):
    """All that comes of at most long of some choices, one behind the other, beginning with what is void."""
    told = [void]
    last = [void]
    for count in range(long):
        longer = []
        for ahead in last:
            longer.extend([ahead + choice for choice in choices])
        told.extend(longer)
        last = longer
    return told


def choices_of(room, sort):
    """All values of a part that are in a room."""
    if sort == "num":
        return numbers_of(room)
    if sort == "row":
        return up_to_long((), [(number,) for number in numbers_of(room)], room[2])
    return up_to_long("", signs_of(room), room[2])


def how_many_of(room, sort):
    """How many values of a part are in a room."""
    choices = len(signs_of(room)) if sort == "text" else len(numbers_of(room))
    if sort == "num":
        return choices
    told = 1
    for count in range(room[2]):
        told = 1 + choices * told
    return told


def how_many(program, f, room):
    """How many inputs a function has by a room."""
    told = 1
    for path, sort in param_parts(program, f):
        told = told * how_many_of(room, sort)
    return told


def part_size(part):
    """The size of the value of a part."""
    if isinstance(part, int):
        return abs(part)
    if isinstance(part, str):
        return len(part)
    return len(part) + sum([abs(number) for number in part])


def laid_size(laid):
    """The size of an input by its parts."""
    return sum([part_size(part) for part in laid])


def size_of(program, f, values):
    """The size of an input of a function."""
    return laid_size(flat_all(program, param_kinds(program, f), values))


def inputs(program, f, room):
    """All inputs of a function by a room, least first."""
    laid = [()]
    for path, sort in param_parts(program, f):
        choices = choices_of(room, sort)
        longer = []
        for ahead in laid:
            longer.extend([ahead + (part,) for part in choices])
        laid = longer
    ordered = sorted(laid, key=lambda one: (laid_size(one), one))
    kinds = param_kinds(program, f)
    return [unflat_all(program, kinds, one) for one in ordered]


def at_least(thing, number):
    """The fact that a thing is a number or more."""
    return ("least", (-number, ((thing, 1),)))


def at_most(thing, number):
    """The fact that a thing is a number or less."""
    return ("least", (number, ((thing, -1),)))


def each_between(name, long, least, most):
    """The facts that the first long numbers of a row are each from least to most."""
    void = (0, ())
    behind = (long, ())
    return [("each", name, void, behind, 1, 0, (-least, ())), ("each", name, void, behind, -1, 0, (most, ()))]


def room_facts(program, f, room):
    """Facts over a function's params that all hold just for its inputs by a room."""
    told = []
    for path, sort in param_parts(program, f):
        name = ("name", path)
        if sort == "num":
            told.extend([at_least(name, room[0]), at_most(name, room[1])])
        else:
            told.append(at_most(("len", name), room[2]))
            least = room[3] if sort == "text" else room[0]
            most = room[4] if sort == "text" else room[1]
            told.extend(each_between(name, room[2], least, most))
    return told
