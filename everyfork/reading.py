"""Programs read from rows of words."""

from everyfork.errors import NoText
from everyfork.kinds import PLAIN_KINDS, is_name, is_sign_number, sign_of
from everyfork.shapes import inner_count, sort_of

# What the words straight behind these are, ahead of what stands within.
OWN = {
    "let": ("name",),
    "say": ("name",),
    "call": ("name", "name", "many"),
    "text": ("signs",),
    "var": ("name",),
    "of": ("name",),
    "with": ("name",),
    "new": ("name", "many"),
    "times": ("number",),
    "div": ("divisor",),
    "rest": ("divisor",),
    "rows": ("many",),
}

BOUNDS = {"number": (-1000000, 1000000), "divisor": (2, 99), "many": (0, 40), "sign": (32, 126)}
FIGURES = "0123456789"
MOST_FIGURES = 7


def word_at(words, place):
    """The word at a place; behind the last one the void text, which is never a right word."""
    return words[place] if place < len(words) else ""


def number_of(word, bounds):
    """The number within BOUNDS that a word writes, or None where it writes none."""
    figures = word[1:] if word.startswith("-") else word
    if not 1 <= len(figures) <= MOST_FIGURES or not all([sign in FIGURES for sign in figures]):
        return None
    number = int(word)
    # A number is written in one way alone: no 0 ahead, no -0.
    if str(number) != word or not BOUNDS[bounds][0] <= number <= BOUNDS[bounds][1]:
        return None
    return number


def signs_at(words, place):
    """The text shown from a place on and the place behind it, or None where none is shown."""
    many = number_of(word_at(words, place), "many")
    if many is None:
        return None
    told = []
    for behind in range(place + 1, place + 1 + many):
        number = number_of(word_at(words, behind), "sign")
        if number is None or not is_sign_number(number):
            return None
        told.append(sign_of(number))
    return ("".join(told), place + 1 + many)


def own_at(words, place, sort):
    """What the words from a place on show by its sort and the place behind it, or None where they don't."""
    if sort == "signs":
        return signs_at(words, place)
    word = word_at(words, place)
    told = number_of(word, sort) if sort in BOUNDS else word
    if told is None or (sort == "name" and not is_name(word)):
        return None
    return (told, place + 1)


def inner_sorts(word, own):
    """The sorts of what stands within what a word begins, own being what stands ahead of it."""
    if word in ("call", "new", "rows"):
        return ["expression"] * own[-1]
    inner = "condition" if word in ("say", "if", "while", "and", "or", "not") else "expression"
    return [inner] * inner_count(word)


def head_at(words, place, sort):
    """(word, own, sorts within, place behind) of what begins at a place, or None where nothing of its sort does."""
    word = word_at(words, place)
    number = number_of(word, "number")
    if number is not None and sort == "expression":
        return ("num", (number,), [], place + 1)
    # A number stands by its figures alone, so the word num begins nothing here.
    if sort_of(word) != sort or word == "num":
        return None
    own = ()
    behind = place + 1
    for own_sort in OWN.get(word, ()):
        told = own_at(words, behind, own_sort)
        if told is None:
            return None
        own = own + (told[0],)
        behind = told[1]
    return (word, own, inner_sorts(word, own), behind)


def joined(word, own, inner):
    """What a word begins, of its own and of what stands within; bodies are not in it yet."""
    if word in ("call", "new", "rows"):
        return (word,) + own[:-1] + (inner,)
    if word in ("of", "with", "div", "rest"):
        return (word, inner[0]) + own + inner[1:]
    return (word,) + own + inner


def joined_heads(heads):
    """What heads show that stand in the order of their words."""
    # From the last one on, what stands within is always there already.
    waiting = []
    for head in reversed(heads):
        inner = []
        while len(inner) < len(head[2]):
            inner.append(waiting.pop())
        waiting.append(joined(head[0], head[1], tuple(inner)))
    return waiting[0]


def statement_of(words):
    """The statement that words show, its bodies aside, or None where they show none."""
    heads = []
    waiting = ["statement"]
    place = 0
    while waiting:
        head = head_at(words, place, waiting.pop())
        if head is None:
            return None
        heads.append(head)
        place = head[3]
        # The sorts within one head are all alike, so their order is free.
        waiting.extend(head[2])
    return joined_heads(heads) if place == len(words) else None


def pairs_of(words):
    """The names with their kinds that words show, or None where they don't."""
    told = []
    for place in range(0, len(words), 2):
        kind = word_at(words, place + 1)
        if not is_name(words[place]) or not (kind in PLAIN_KINDS or is_name(kind)):
            return None
        told.append((words[place], kind))
    return tuple(told)


class Reading:
    """What the rows so far have shown."""

    def __init__(self):
        self.records = []
        self.functions = []
        # The head of the function under way, its locals, and its open bodies, each with what it belongs to.
        self.head = None
        self.variables = []
        self.bodies = []

    def take(self, words):
        """Take the words of a row; whether it is one where it stands."""
        word = words[0]
        if self.head is None:
            return self.take_record(words) if word == "record" else self.take_function(words)
        if word == "local":
            return self.take_local(words)
        if word == "else":
            return self.take_else(words)
        if word == "end":
            return self.take_end(words)
        return self.take_statement(words)

    def take_record(self, words):
        """Take a record, which stands ahead of all functions."""
        fields = pairs_of(words[2:])
        if len(self.functions) > 0 or not is_name(word_at(words, 1)) or fields is None:
            return False
        self.records.append((words[1], fields))
        return True

    def take_function(self, words):
        """Take the first row of a function."""
        pairs = pairs_of(words[1:])
        if words[0] != "function" or pairs is None or len(pairs) == 0:
            return False
        self.head = pairs
        self.variables = []
        self.bodies = [((), [])]
        return True

    def take_local(self, words):
        """Take a local, which stands ahead of all statements."""
        pairs = pairs_of(words[1:])
        if len(self.bodies) > 1 or len(self.bodies[0][1]) > 0 or pairs is None or len(pairs) != 1:
            return False
        self.variables.append(pairs[0])
        return True

    def take_else(self, words):
        """Take the end of an if's first body."""
        outer = self.bodies[-1][0]
        if len(words) > 1 or len(outer) != 2 or outer[0] != "if":
            return False
        first = self.bodies.pop()[1]
        self.bodies.append((outer + (tuple(first),), []))
        return True

    def take_end(self, words):
        """Take the end of a while's body, of an if's second body, or of a function."""
        outer = self.bodies[-1][0]
        if len(words) > 1 or (len(outer) == 2 and outer[0] == "if"):
            return False
        body = tuple(self.bodies.pop()[1])
        if len(self.bodies) > 0:
            self.bodies[-1][1].append(outer + (body,))
            return True
        self.functions.append((self.head[0][0], self.head[1:], tuple(self.variables), self.head[0][1], body))
        self.head = None
        return True

    def take_statement(self, words):
        """Take a statement, or its first row where it has bodies."""
        statement = statement_of(words)
        if statement is None:
            return False
        if statement[0] in ("if", "while"):
            self.bodies.append((statement, []))
        else:
            self.bodies[-1][1].append(statement)
        return True

    def is_done(self):
        """Whether the rows so far show a program."""
        return self.head is None and len(self.functions) > 0


def read(rows):
    """The program that rows show; rows that show none are refused."""
    reading = Reading()
    for number, row in enumerate(rows):
        if not reading.take(row.split(" ")):
            raise NoText(number)
    if not reading.is_done():
        raise NoText(len(rows))
    return (tuple(reading.records), tuple(reading.functions))
