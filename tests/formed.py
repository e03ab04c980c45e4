"""Forms, row terms, facts and models that several tests go by, made and reckoned the long way."""

import random

N0, N1, R0, R1, T0, T1 = ("n", 0), ("n", 1), ("r", 0), ("r", 1), ("t", 0), ("t", 1)
X, Y = ("name", ("x",)), ("was", ("p", "y"))
ROW, OLD = ("name", ("row",)), ("was", ("p", "row"))
ROUNDS = ("rounds",)


def form(number, *pairs):
    """A form by its number and things with their times, in whatever order."""
    return (number, tuple(sorted(pairs)))


def least(number, *pairs):
    """A least fact by its form."""
    return ("least", form(number, *pairs))


def reckoned(form, model):
    """The value of a form in a model, by point 33."""
    return form[0] + sum(often * thing_reckoned(thing, model) for thing, often in form[1])


def thing_reckoned(thing, model):
    """The value of a thing in a model, by point 33."""
    if thing[0] == "len":
        return len(listed(thing[1], model))
    if thing[0] == "at":
        place = reckoned(thing[2], model)
        return dict(enumerate(listed(thing[1], model))).get(place, 0)
    if thing[0] == "div":
        number, told = reckoned(thing[1], model), 0
        told = (number - number % thing[2]) // thing[2]
        assert told * thing[2] <= number < (told + 1) * thing[2]
        return told
    return model.get(thing, 0)


def listed(row_term, model):
    """The numbers of a row term in a model, by point 33."""
    if row_term[0] == "rows":
        return [reckoned(one, model) for one in row_term[1]]
    if row_term[0] == "more":
        return listed(row_term[1], model) + [reckoned(row_term[2], model)]
    if row_term[0] == "put":
        place = reckoned(row_term[2], model)
        return [reckoned(row_term[3], model) if number == place else one
                for number, one in enumerate(listed(row_term[1], model))]
    return list(model.get(row_term, ()))


def stands(fact, model):
    """Whether a fact holds in a model, by point 34."""
    if fact[0] == "least":
        return reckoned(fact[1], model) >= 0
    _, row, first, behind, a, b, rest = fact
    return all(a * number + b * place + reckoned(rest, model) >= 0
               for place, number in enumerate(listed(row, model))
               if reckoned(first, model) <= place < reckoned(behind, model))


def is_form_by_shape(thing):
    """Whether a thing that is made of right things is a form: parts rising, each thing once, no time of 0."""
    things = [pair[0] for pair in thing[1]]
    return (type(thing) is tuple and len(thing) == 2 and type(thing[0]) is int and type(thing[1]) is tuple
            and all(type(pair) is tuple and len(pair) == 2 and type(pair[1]) is int and pair[1] != 0 for pair in thing[1])
            and things == sorted(set(things)))


class Former:
    """Makes forms, row terms, facts and models, always the same ones for the same seed."""

    NUMBERS = (N0, N1, ("n", 2), X, Y, ROUNDS)
    ROWS = (R0, R1, T0, T1, ROW, OLD)

    def __init__(self, seed, numbers=NUMBERS, rows=ROWS, most=4):
        self.random = random.Random(seed)
        self.numbers = numbers
        self.rows = rows
        self.most = most

    def number(self):
        return self.random.randint(-self.most, self.most)

    def form(self, deep):
        """A form with at most so many within one another, one at least."""
        held = {}
        if deep > 1:
            for _ in range(self.random.choice((0, 1, 1, 1, 2, 3))):
                held[self.thing(deep - 1)] = self.random.choice((-3, -2, -1, -1, 1, 1, 1, 2, 5))
        return (self.number(), tuple(sorted(held.items())))

    def thing(self, deep):
        """A thing with at most so many within one another, one at least."""
        sorts = ["n"] + (["n", "len", "div", "at", "at"] if deep > 1 else [])
        sort = self.random.choice(sorts if self.rows else ["n"] + ["div"] * (deep > 1))
        if sort == "len":
            return ("len", self.random.choice(self.rows))
        if sort == "div":
            return ("div", self.form(deep - 1), self.random.choice((2, 3, 7, 99)))
        if sort == "at":
            return ("at", self.row(deep - 1), self.form(deep - 1))
        return self.random.choice(self.numbers) if self.numbers else ("len", self.random.choice(self.rows))

    def row(self, deep):
        """A row term with at most so many within one another, one at least."""
        sort = self.random.choice(["plain"] + (["plain", "rows", "put", "more"] if deep > 1 else []))
        if sort == "rows" or not self.rows:
            many = self.random.randint(0, 3) if deep > 1 else 0
            return ("rows", tuple(self.form(deep - 1) for _ in range(many)))
        if sort == "put":
            return ("put", self.row(deep - 1), self.form(deep - 1), self.form(deep - 1))
        if sort == "more":
            return ("more", self.row(deep - 1), self.form(deep - 1))
        return self.random.choice(self.rows)

    def fact(self, deep):
        """A fact whose forms and row terms have at most so many within one another."""
        if self.random.random() < 0.6:
            return ("least", self.form(deep))
        return ("each", self.row(deep), self.form(deep), self.form(deep), self.number(), self.number(), self.form(deep))

    def thing_of_three(self, deep):
        """A form, a row term or a fact."""
        return self.random.choice((self.form, self.row, self.fact))(deep)

    def model(self):
        """A model; some of its numbers and rows may be left out."""
        told = {}
        for one in self.numbers:
            if self.random.random() < 0.8:
                told[one] = self.number()
        for one in self.rows:
            if self.random.random() < 0.8:
                many = range(self.random.randint(0, 4))
                told[one] = tuple(self.random.choice((32, 36, 38, 126)) if one[0] == "t" else self.number() for _ in many)
        return told
