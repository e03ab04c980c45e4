"""The shapes of statements, expressions and conditions, and the kinds that expressions have."""

from everyfork.kinds import field_kind, field_kinds, is_between, is_text

# Of each word: what it begins, how long that is, and at which places expressions or conditions stand in it.
SHAPES = {
    "let": ("statement", 3, (2,)),
    "say": ("statement", 3, (2,)),
    "if": ("statement", 4, (1,)),
    "while": ("statement", 3, (1,)),
    "call": ("statement", 4, ()),
    "give": ("statement", 2, (1,)),
    "num": ("expression", 2, ()),
    "text": ("expression", 2, ()),
    "var": ("expression", 2, ()),
    "of": ("expression", 3, (1,)),
    "with": ("expression", 4, (1, 3)),
    "new": ("expression", 3, ()),
    "add": ("expression", 3, (1, 2)),
    "sub": ("expression", 3, (1, 2)),
    "times": ("expression", 3, (2,)),
    "div": ("expression", 3, (1,)),
    "rest": ("expression", 3, (1,)),
    "len": ("expression", 2, (1,)),
    "at": ("expression", 3, (1, 2)),
    "rows": ("expression", 2, ()),
    "put": ("expression", 4, (1, 2, 3)),
    "more": ("expression", 3, (1, 2)),
    "signs": ("expression", 2, (1,)),
    "less": ("condition", 3, (1, 2)),
    "same": ("condition", 3, (1, 2)),
    "and": ("condition", 3, (1, 2)),
    "or": ("condition", 3, (1, 2)),
    "not": ("condition", 2, (1,)),
}

# These have a tuple of expressions, at this place.
LISTED = {"call": 3, "new": 2, "rows": 1}

# Of these words: the kinds of what stands within, and the kind of the whole.
GOES_BY = {
    "add": (("num", "num"), "num"),
    "sub": (("num", "num"), "num"),
    "times": (("num",), "num"),
    "div": (("num",), "num"),
    "rest": (("num",), "num"),
    "put": (("row", "num", "num"), "row"),
    "more": (("row", "num"), "row"),
    "signs": (("text",), "row"),
}

MOST_NUMBER = 1000000
MOST_SIGNS = 40
MOST_IN_ROWS = 8
MOST_EXPRESSIONS = 12
MOST_CONDITIONS = 6


def is_shaped(thing, sort):
    """Whether any thing is a tuple that begins like a statement, expression or condition, and as long as one."""
    if not isinstance(thing, tuple) or len(thing) == 0 or not isinstance(thing[0], str):
        return False
    shape = SHAPES.get(thing[0])
    if shape is None or shape[0] != sort or shape[1] != len(thing):
        return False
    return thing[0] not in LISTED or isinstance(thing[LISTED[thing[0]]], tuple)


def sort_of(word):
    """What a text begins as a word: a statement, an expression or a condition, or None where it begins nothing."""
    return SHAPES[word][0] if word in SHAPES else None


def inner_count(word):
    """How many expressions or conditions stand straight within what a word begins, those of a tuple aside."""
    return len(SHAPES[word][2])


def inner_of(shaped):
    """The expressions or conditions that stand straight within a shaped thing, from left to right."""
    word = shaped[0]
    if word in LISTED:
        return list(shaped[LISTED[word]])
    return [shaped[place] for place in SHAPES[word][2]]


def may_break(shaped):
    """Whether an at or a put stands somewhere in a shaped thing, itself among them."""
    waiting = [shaped]
    while waiting:
        one = waiting.pop()
        if one[0] in ("at", "put"):
            return True
        waiting.extend(inner_of(one))
    return False


def is_small(thing):
    """Whether any thing has the shape of an expression, all within it too, and they are not too many."""
    # Counting ahead of all else keeps every later walk shallow, however deep the thing lies.
    waiting = [thing]
    count = 0
    while waiting:
        one = waiting.pop()
        count += 1
        if count > MOST_EXPRESSIONS or not is_shaped(one, "expression"):
            return False
        waiting.extend(inner_of(one))
    return True


def own_right(e):
    """Whether the number or text that an expression itself bears is within its bounds."""
    word = e[0]
    if word in ("num", "times"):
        return is_between(e[1], -MOST_NUMBER, MOST_NUMBER)
    if word in ("div", "rest"):
        return is_between(e[2], 2, 99)
    if word == "text":
        return is_text(e[1]) and len(e[1]) <= MOST_SIGNS
    return True


def named_kind(kinds, thing):
    """The kind of the variable that any thing names, or None where it names none."""
    return kinds.get(thing) if isinstance(thing, str) else None


def record_kind(program, e, inner):
    """The kind of an of, with or new by the kinds of what stands within, or None where it is not right."""
    if e[0] == "of":
        return field_kind(program, inner[0], e[2])
    if e[0] == "with":
        return inner[0] if field_kind(program, inner[0], e[2]) == inner[1] else None
    wanted = field_kinds(program, e[1])
    return e[1] if len(wanted) > 0 and wanted == list(inner) else None


def kind_by(program, kinds, e, inner):
    """The kind of an expression by the kinds of what stands within, or None where it is not right."""
    word = e[0]
    if word in ("num", "text"):
        return word
    if word == "var":
        return named_kind(kinds, e[1])
    if word in GOES_BY:
        return GOES_BY[word][1] if inner == GOES_BY[word][0] else None
    if word == "len":
        return "num" if inner in (("row",), ("text",)) else None
    if word == "at":
        return "num" if inner in (("row", "num"), ("text", "num")) else None
    if word == "rows":
        return "row" if len(inner) <= MOST_IN_ROWS and all([kind == "num" for kind in inner]) else None
    return record_kind(program, e, inner)


def kind_in(program, kinds, e):
    """The kind of a small expression, kinds a dict of its variables' kinds, or None where it is not right."""
    inner = []
    for one in inner_of(e):
        kind = kind_in(program, kinds, one)
        if kind is None:
            return None
        inner.append(kind)
    return kind_by(program, kinds, e, tuple(inner)) if own_right(e) else None


def expression_kind(program, kinds, thing):
    """The kind that any thing has as an expression, or None where it is no right one."""
    return kind_in(program, kinds, thing) if is_small(thing) else None


def is_compared(program, kinds, thing):
    """Whether any thing may stand in less and same."""
    return expression_kind(program, kinds, thing) == "num" and not may_break(thing)


def is_condition(program, kinds, thing):
    """Whether any thing is a right condition, kinds a dict of its variables' kinds."""
    waiting = [thing]
    count = 0
    while waiting:
        c = waiting.pop()
        count += 1
        if count > MOST_CONDITIONS or not is_shaped(c, "condition"):
            return False
        if c[0] not in ("less", "same"):
            waiting.extend(inner_of(c))
        elif not all([is_compared(program, kinds, e) for e in inner_of(c)]):
            return False
    return True
