"""Programs shown as rows of words."""

from everyfork.shapes import inner_of


def own_words(shaped):
    """The words of a statement, expression or condition ahead of those of what stands within it."""
    word = shaped[0]
    if word == "num":
        return [str(shaped[1])]
    if word == "text":
        return [word, str(len(shaped[1]))] + [str(ord(sign)) for sign in shaped[1]]
    if word in ("let", "say", "var"):
        return [word, shaped[1]]
    if word in ("of", "with"):
        return [word, shaped[2]]
    if word == "times":
        return [word, str(shaped[1])]
    if word in ("div", "rest"):
        return [word, str(shaped[2])]
    if word == "call":
        return [word, shaped[1], shaped[2], str(len(shaped[3]))]
    if word == "new":
        return [word, shaped[1], str(len(shaped[2]))]
    if word == "rows":
        return [word, str(len(shaped[1]))]
    return [word]


def row_of(statement):
    """The row of a statement, those of its bodies aside."""
    told = []
    waiting = [statement]
    while waiting:
        shaped = waiting.pop()
        told.extend(own_words(shaped))
        waiting.extend(list(reversed(inner_of(shaped))))
    return " ".join(told)


def behind_row(statement):
    """What stands behind the row of a statement: the statements of its bodies, and the rows around them."""
    if statement[0] == "if":
        return list(statement[2]) + ["else"] + list(statement[3]) + ["end"]
    if statement[0] == "while":
        return list(statement[2]) + ["end"]
    return []


def body_rows(body):
    """The rows of a body's statements."""
    told = []
    waiting = list(reversed(body))
    while waiting:
        one = waiting.pop()
        if isinstance(one, str):
            told.append(one)
        else:
            told.append(row_of(one))
            waiting.extend(list(reversed(behind_row(one))))
    return told


def row_with_pairs(words, pairs):
    """A row of words and of names with their kinds."""
    told = list(words)
    for pair in pairs:
        told.extend(pair)
    return " ".join(told)


def shown(program):
    """The rows that show a right program."""
    told = [row_with_pairs(["record", record[0]], record[1]) for record in program[0]]
    for function in program[1]:
        told.append(row_with_pairs(["function", function[0], function[3]], function[1]))
        told.extend([row_with_pairs(["local"], [pair]) for pair in function[2]])
        told.extend(body_rows(function[4]))
        told.append("end")
    return told
