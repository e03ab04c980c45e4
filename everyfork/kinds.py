"""Whole numbers, texts and names, and the kinds of values with their parts."""

PLAIN_KINDS = ("num", "text", "row")
NO_NAMES = ("num", "text", "row", "gives", "rounds", "range")
LETTERS = "abcdefghijklmnopqrstuvwxyz"
# All signs that texts may have, by their numbers from 32 on; the one numbered 37 has no place among them.
SIGNS = (
    " !\"#$&'()*+,-./0123456789:;<=>?@ABCDEFGHIJKLMNOPQRSTUVWXYZ"
    "[\\]^_`abcdefghijklmnopqrstuvwxyz{|}~"
)


def is_whole(thing):
    """Whether any thing is a whole number."""
    # Python takes truths for ints; here they are none.
    return isinstance(thing, int) and not isinstance(thing, bool)


def is_between(thing, least, most):
    """Whether any thing is a whole number from least to most."""
    return is_whole(thing) and least <= thing <= most


def is_sign_number(number):
    """Whether a whole number is that of a sign that texts may have."""
    return 32 <= number <= 126 and number != 37


def sign_of(number):
    """The sign of a number that is one."""
    return SIGNS[number - 32] if number < 37 else SIGNS[number - 33]


def is_text(thing):
    """Whether any thing is a text of signs from the blank to the tilde, the one numbered 37 aside."""
    return isinstance(thing, str) and all([is_sign_number(ord(sign)) for sign in thing])


def is_name(thing):
    """Whether a text is a name: one to eight small letters, and none of the words that are no names."""
    if not isinstance(thing, str) or not 1 <= len(thing) <= 8:
        return False
    return thing not in NO_NAMES and all([sign in LETTERS for sign in thing])


def fields_of(program, kind):
    """The fields of a record with their kinds; none of what is no record."""
    for record in program[0]:
        if record[0] == kind:
            return record[1]
    return ()


def field_kinds(program, kind):
    """The kinds of a record's fields, in order; none of what is no record."""
    return [field[1] for field in fields_of(program, kind)]


def field_kind(program, kind, field):
    """The kind of a field straight within a kind, or None where there is no such field."""
    for pair in fields_of(program, kind):
        if pair[0] == field:
            return pair[1]
    return None


def parts(program, kind):
    """The parts of a kind, in order, as (path, sort)."""
    if kind in PLAIN_KINDS:
        return [((), kind)]
    told = []
    for field, inner in fields_of(program, kind):
        for path, sort in parts(program, inner):
            told.append(((field,) + path, sort))
    return told


def kind_at(program, kind, path):
    """The kind to which the fields of a path lead from a kind on, or None where they don't."""
    for field in path:
        kind = field_kind(program, kind, field)
        if kind is None:
            return None
    return kind
