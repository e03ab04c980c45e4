"""Programs that several tests go by, and small makers of programs and plain things."""

import random

NUM = ("num", 1)
X = ("var", "x")
LESS = ("less", NUM, X)
MORE = ("less", ("num", 2), ("var", "n"))

RECORDS = (
    ("point", (("x", "num"), ("y", "num"))),
    ("sheet", (("title", "text"), ("at", "point"), ("cells", "row"))),
    ("book", (("one", "sheet"), ("two", "sheet"))),
)


def function(body, params=(), inner=(), kind="num", name="f"):
    """A function of a body."""
    return (name, tuple(params), tuple(inner), kind, tuple(body))


def program(body, params=(), inner=(), kind="num", records=(), others=()):
    """A program whose first function, f, has this body."""
    return (tuple(records), (function(body, params, inner, kind),) + tuple(others))


def nested(deep, inner=()):
    """A tuple that lies so deep around another one."""
    for times in range(deep):
        inner = (inner,)
    return inner


# Every statement, expression and condition there is.
WHOLE = (
    RECORDS,
    (
        (
            "main",
            (("n", "num"), ("t", "text"), ("r", "row"), ("s", "sheet")),
            (("i", "num"), ("u", "text"), ("q", "row"), ("p", "point"), ("out", "sheet"), ("b", "book")),
            "row",
            (
                ("let", "i", ("num", -7)),
                ("let", "u", ("text", "a b~\"\\")),
                ("say", "ready", ("not", ("same", ("var", "n"), ("num", 3)))),
                ("if", ("and", ("less", ("var", "n"), ("num", 0)),
                        ("or", MORE, ("same", ("len", ("var", "t")), ("num", 0)))),
                 (("let", "p", ("new", "point", (("var", "n"), ("times", -3, ("var", "n"))))),
                  ("while", ("less", ("var", "i"), ("num", 0)),
                   (("let", "i", ("add", ("var", "i"), ("num", 1))),
                    ("if", MORE, (), (("let", "q", ("more", ("var", "q"), ("var", "i"))),))))),
                 (("let", "q", ("signs", ("var", "t"))),
                  ("call", "i", "helper", (("var", "s"), ("sub", ("var", "n"), ("num", 1)))),
                  ("let", "out", ("with", ("var", "s"), "at", ("var", "p"))))),
                ("let", "b", ("new", "book", (("var", "s"), ("var", "out")))),
                ("let", "i", ("at", ("var", "t"), ("div", ("var", "n"), 2))),
                ("let", "q", ("put", ("rows", (("num", 1), ("var", "i"))), ("rest", ("var", "n"), 99), ("num", 5))),
                ("let", "i", ("of", ("of", ("of", ("var", "b"), "two"), "at"), "y")),
                ("give", ("of", ("var", "s"), "cells")),
            ),
        ),
        ("helper", (("s", "sheet"), ("n", "num")), (), "num",
         (("if", ("less", ("var", "n"), ("num", 0)), (("give", ("num", 0)),), ()),
          ("call", "n", "helper", (("var", "s"), ("sub", ("var", "n"), ("num", 1)))),
          ("give", ("at", ("of", ("var", "s"), "cells"), ("var", "n"))))),
        ("none", (), (), "book", ()),
    ),
)

# One of each sort of plain thing, and some that lie deep.
THINGS = (
    0, 1, -1, 5, True, False, None, "", "x", "num", "text", "row", "let", (), [], (0,), [0], (True,), ("x",),
    (None,), ((),), ([],), (0, 0), [0, 0], ("num", 1), ["num", 1], ("var", "x"), ((), ()), [(), ()], (0, "", (), ()),
    nested(40), nested(39, 0), [nested(38)],
)


class Maker:
    """Makes right programs, always the same ones for the same seed."""

    KINDS = ("num", "text", "row", "point", "sheet", "book")
    VARIABLES = {"num": ("n", "i"), "text": ("t", "u"), "row": ("r", "q"), "point": ("p",), "sheet": ("s",), "book": ("b",)}

    def __init__(self, seed):
        self.random = random.Random(seed)

    def value(self, kind):
        """A value of a kind."""
        if kind == "num":
            return self.random.randint(-3, 3)
        if kind == "row":
            return tuple(self.value("num") for _ in range(self.random.randint(0, 3)))
        if kind == "text":
            return "".join(self.random.choice(" ab~&$") for _ in range(self.random.randint(0, 3)))
        return tuple(self.value(inner) for _, inner in dict(RECORDS)[kind])

    def program(self):
        """A program of two functions that call one another."""
        kinds = (self.random.choice(self.KINDS), self.random.choice(self.KINDS))
        made = []
        for name, kind in zip(("one", "two"), kinds):
            self.lines = 20
            made.append((name, (("n", "num"), ("t", "text"), ("r", "row"), ("s", "sheet")),
                         (("i", "num"), ("u", "text"), ("q", "row"), ("p", "point"), ("b", "book")), kind,
                         self.body(1, kind, kinds)))
        return (RECORDS, tuple(made))

    def body(self, deep, kind, kinds):
        """A body within so many statements, in a function of a kind, of functions of these kinds."""
        told = []
        for _ in range(self.random.randint(0 if deep > 1 else 2, 5)):
            if self.lines > 0:
                self.lines -= 1
                told.append(self.statement(deep, kind, kinds))
        return tuple(told)

    def statement(self, deep, kind, kinds):
        """A statement, where it may stand."""
        word = self.random.choice(("let", "let", "let", "say", "if", "while", "call", "give"))
        if deep == 5 and word in ("if", "while"):
            word = "let"
        if word == "say":
            return ("say", self.random.choice(("low", "high", "end")), self.condition(6))
        if word == "if":
            return ("if", self.condition(6), self.body(deep + 1, kind, kinds), self.body(deep + 1, kind, kinds))
        if word == "while":
            return ("while", self.condition(6), self.body(deep + 1, kind, kinds))
        if word == "give":
            return ("give", self.expression(kind, 12))
        if word == "call":
            place = self.random.randint(0, 1)
            given = tuple(self.expression(one, 6) for one in ("num", "text", "row", "sheet"))
            return ("call", self.random.choice(self.VARIABLES[kinds[place]]), ("one", "two")[place], given)
        target = self.random.choice(self.KINDS)
        return ("let", self.random.choice(self.VARIABLES[target]), self.expression(target, 12))

    def condition(self, room):
        """A condition of at most so many."""
        if room < 3 or self.random.random() < 0.5:
            told = []
            while len(told) < 2:
                e = self.expression("num", 5)
                if "'at'" not in repr(e) and "'put'" not in repr(e):
                    told.append(e)
            return (self.random.choice(("less", "same")),) + tuple(told)
        word = self.random.choice(("and", "or", "not"))
        if word == "not":
            return ("not", self.condition(room - 1))
        return (word, self.condition((room - 1) // 2), self.condition((room - 1) // 2))

    def expression(self, kind, room):
        """An expression of a kind of at most so many."""
        shapes = {
            "num": ("num", "add", "sub", "times", "div", "rest", "len", "at", "of"),
            "text": ("text", "of"), "row": ("rows", "put", "more", "signs", "of"),
            "point": ("new", "of", "with"), "sheet": ("new", "with"), "book": ("with",),
        }
        if room < 5 or self.random.random() < 0.3:
            return ("var", self.random.choice(self.VARIABLES[kind]))
        return self.made(self.random.choice(shapes[kind]), kind, (room - 1) // 3)

    def made(self, word, kind, room):
        """An expression of a word, what stands within having so much room each."""
        number = self.random.randint(-9, 9)
        if word == "num":
            return ("num", number)
        if word == "text":
            return ("text", self.value("text"))
        if word == "times":
            return ("times", number, self.expression("num", room))
        if word in ("div", "rest"):
            return (word, self.expression("num", room), 2 + abs(number))
        if word in ("len", "at"):
            inner = (self.expression(self.random.choice(("text", "row")), room),)
            return (word,) + inner + ((self.expression("num", room),) if word == "at" else ())
        if word == "rows":
            return ("rows", tuple(self.expression("num", room) for _ in range(self.random.randint(0, 3))))
        if word == "new":
            return ("new", kind, tuple(self.expression(inner, room) for _, inner in dict(RECORDS)[kind]))
        if word == "of":
            held = [(name, field) for name, fields in RECORDS for field, inner in fields if inner == kind]
            name, field = self.random.choice(held)
            return ("of", self.expression(name, room), field)
        if word == "with":
            field, inner = self.random.choice(dict(RECORDS)[kind])
            return ("with", self.expression(kind, room), field, self.expression(inner, room))
        wanted = {"add": ("num", "num"), "sub": ("num", "num"), "put": ("row", "num", "num"), "more": ("row", "num"),
                  "signs": ("text",)}[word]
        return (word,) + tuple(self.expression(one, room) for one in wanted)
