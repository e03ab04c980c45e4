"""Forms, row terms and facts: which things are such, and the names and unknowns that stand in them."""

from everyfork.kinds import is_between, is_text, is_whole

MOST_DEEP = 12
MOST_IN_ONE = 200

# These are counted, and counted as standing within one another.
COUNTED = ("form", "thing", "row", "bare")

NAME_HEADS = ("name", "was", "rounds")

# Of a sort and a head: the sorts of what stands behind the head. A bare row is one of which a len may be asked.
BEHIND = {
    ("fact", "least"): ("form",),
    ("fact", "each"): ("row", "form", "form", "whole", "whole", "form"),
    ("thing", "n"): ("count",),
    ("thing", "len"): ("bare",),
    ("thing", "at"): ("row", "form"),
    ("thing", "div"): ("form", "divisor"),
    ("thing", "name"): ("path",),
    ("thing", "was"): ("path",),
    ("thing", "rounds"): (),
    ("row", "r"): ("count",),
    ("row", "t"): ("count",),
    ("row", "name"): ("path",),
    ("row", "was"): ("path",),
    ("row", "rows"): ("forms",),
    ("row", "put"): ("row", "form", "form"),
    ("row", "more"): ("row", "form"),
    ("bare", "r"): ("count",),
    ("bare", "t"): ("count",),
    ("bare", "name"): ("path",),
    ("bare", "was"): ("path",),
}


def is_count(thing):
    """Whether any thing is a whole number from 0 on."""
    return is_whole(thing) and thing >= 0


def is_divisor(thing):
    """Whether any thing is a number by which a div may go."""
    return is_between(thing, 2, 99)


def is_path(thing):
    """Whether any thing is a tuple of one or more texts."""
    return isinstance(thing, tuple) and len(thing) > 0 and all([is_text(one) for one in thing])


def is_plain(sort, thing):
    """Whether any thing is one of a sort in which nothing else stands."""
    if sort == "count":
        return is_count(thing)
    if sort == "divisor":
        return is_divisor(thing)
    return is_path(thing) if sort == "path" else is_whole(thing)


def in_form(thing):
    """What stands straight in any thing as a form, with its sort, or None where it is none by its own shape."""
    if not isinstance(thing, tuple) or len(thing) != 2 or not is_whole(thing[0]) or not isinstance(thing[1], tuple):
        return None
    for pair in thing[1]:
        if not isinstance(pair, tuple) or len(pair) != 2 or not is_whole(pair[1]) or pair[1] == 0:
            return None
    return [("thing", pair[0]) for pair in thing[1]]


def in_headed(sort, thing):
    """What stands straight in any thing that begins with a head, or None where it is none by its own shape."""
    if not isinstance(thing, tuple) or len(thing) == 0 or not isinstance(thing[0], str):
        return None
    behind = BEHIND.get((sort, thing[0]))
    if behind is None or len(thing) != 1 + len(behind):
        return None
    return list(zip(behind, thing[1:]))


def stands_in(sort, thing):
    """What stands straight in any thing as one of a sort, with its sort, or None where it is none by its own shape."""
    if sort == "form":
        return in_form(thing)
    if sort == "forms":
        return [("form", one) for one in thing] if isinstance(thing, tuple) else None
    if sort in COUNTED or sort == "fact":
        return in_headed(sort, thing)
    return [] if is_plain(sort, thing) else None


def is_rising(things):
    """Whether things rise, each once."""
    return all([one < other for one, other in zip(things, things[1:])])


def is_such(sort, thing):
    """Whether any plain thing is one of a sort, all in it too, within the bounds."""
    waiting = [(sort, thing, 0)]
    in_forms = []
    count = 0
    while waiting:
        task = waiting.pop()
        deep = task[2]
        if task[0] in COUNTED:
            deep += 1
            count += 1
        inner = stands_in(task[0], task[1])
        if inner is None or deep > MOST_DEEP or count > MOST_IN_ONE:
            return False
        if task[0] == "form":
            in_forms.append([pair[1] for pair in inner])
        waiting.extend([(pair[0], pair[1], deep) for pair in inner])
    # Only what is right all through can be compared without fail.
    return all([is_rising(things) for things in in_forms])


def is_form(thing):
    """Whether any plain thing is a form."""
    return is_such("form", thing)


def is_row_term(thing):
    """Whether any plain thing is a row term."""
    return is_such("row", thing)


def is_fact(thing):
    """Whether any plain thing is a fact."""
    return is_such("fact", thing)


def sort_by_head(thing):
    """The sort of a form, row term or fact."""
    if is_whole(thing[0]):
        return "form"
    return "fact" if ("fact", thing[0]) in BEHIND else "row"


def placed_in(thing, heads):
    """What stands with one of these heads in a form, row term or fact, with its sort, as often as it stands."""
    waiting = [(sort_by_head(thing), thing)]
    found = []
    while waiting:
        task = waiting.pop()
        if task[0] in COUNTED and task[1][0] in heads:
            found.append(task)
        waiting.extend(stands_in(task[0], task[1]))
    return found


def found_in(thing, heads):
    """What stands with one of these heads in a form, row term or fact, rising, each once."""
    return sorted(set([task[1] for task in placed_in(thing, heads)]))


def named_in(thing):
    """The names in a form, row term or fact as (name, sort), num where it stands as a number, else row."""
    found = placed_in(thing, NAME_HEADS)
    return [(task[1], "num" if task[0] == "thing" else "row") for task in found]


def names_in(thing):
    """The names in a form, row term or fact, rising, each once."""
    return found_in(thing, NAME_HEADS)


def unknowns_in(thing):
    """The unknowns in a form, row term or fact, rising, each once."""
    return found_in(thing, ("n", "r", "t"))
