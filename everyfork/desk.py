"""A desk: it is told rows, one at a time, and answers each with a text."""

from everyfork.errors import NoRow
from everyfork.finding import failing
from everyfork.keeping import Keeper
from everyfork.kinds import is_sign_number, is_text, parts, sign_of
from everyfork.programs import function_of, right_program, spots_of
from everyfork.reading import FIGURES, read
from everyfork.rooms import is_room, param_kinds
from everyfork.running import run
from everyfork.texts import shown
from everyfork.values import flat, flat_all, unflat_all

MOST_TICKS = 400
MOST_IN_ONE = 60
# Of numbers that are bounded: so no word is too long to be read as one.
MOST_FIGURES = 7


def number_of(word):
    """The number that a word writes; refused where it writes none."""
    figures = word[1:] if word.startswith("-") else word
    if len(figures) == 0 or not all([sign in FIGURES for sign in figures]):
        raise NoRow("no number")
    # A number is written in one way alone: no 0 ahead, no -0.
    if figures.startswith("0") and word != "0":
        raise NoRow("no number as it is written")
    return int(word)


def number_between(word, least, most):
    """The number from least to most that a word writes; refused where it writes none."""
    if len(word) > MOST_FIGURES:
        raise NoRow("a number of too many figures")
    number = number_of(word)
    if not least <= number <= most:
        raise NoRow("a number beyond its bounds")
    return number


class Words:
    """The words of a row that are still to be taken."""

    def __init__(self, words):
        self.words = words
        self.place = 0

    def take_one(self):
        """The next word; refused where none is left."""
        if self.place == len(self.words):
            raise NoRow("words are lacking")
        self.place += 1
        return self.words[self.place - 1]

    def take_part(self, sort):
        """The value of a part of a sort."""
        if sort == "num":
            return number_of(self.take_one())
        many = number_between(self.take_one(), 0, MOST_IN_ONE)
        if sort == "row":
            return tuple([number_of(self.take_one()) for count in range(many)])
        return "".join([self.take_sign() for count in range(many)])

    def take_sign(self):
        """The sign that the next word tells by its number."""
        number = number_between(self.take_one(), 32, 126)
        if not is_sign_number(number):
            raise NoRow("no sign")
        return sign_of(number)

    def take_values(self, program, kinds):
        """The tuple of values of kinds, behind which no word is left."""
        laid = []
        for kind in kinds:
            laid.extend([self.take_part(part[1]) for part in parts(program, kind)])
        self.take_end()
        return unflat_all(program, kinds, tuple(laid))

    def take_end(self):
        """Refused where a word is left."""
        if self.place < len(self.words):
            raise NoRow("words too many")


def words_of_part(part):
    """The words that show the value of a part."""
    if isinstance(part, int):
        return [str(part)]
    if isinstance(part, str):
        return [str(len(part))] + [str(ord(sign)) for sign in part]
    return [str(len(part))] + [str(number) for number in part]


def row_of_parts(words, laid):
    """A row of words and of the words that show parts."""
    told = list(words)
    for part in laid:
        told.extend(words_of_part(part))
    return " ".join(told)


def shown_spot(spot):
    """The words of a spot."""
    told = [spot[0], spot[1], str(spot[2])]
    if spot[0] == "way":
        told.append("yes" if spot[3] else "no")
    elif spot[0] == "breaks":
        told.append(spot[3])
    return " ".join(told)


def one_behind_other(rows):
    """Rows parted by commas, or none."""
    return ", ".join(rows) if len(rows) > 0 else "none"


class Desk:
    """What was told of a program and of a keeper so far."""

    def __init__(self):
        self.program = None
        self.keeper = None
        # The function, room and ticks of the keeper.
        self.asked_for = None

    def say(self, row):
        """The answer to a row; refused where it is none."""
        if not isinstance(row, str) or not is_text(row.replace("\n", "")):
            raise NoRow("no text")
        lines = row.split("\n")
        words = Words(lines[0].split(" "))
        word = words.take_one()
        if word in ("program", "change"):
            words.take_end()
            return self.take_program(lines[1:]) if word == "program" else self.take_change(lines[1:])
        if len(lines) > 1:
            raise NoRow("lines too many")
        if word == "show":
            words.take_end()
            return "\n".join(shown(self.asked_program()))
        if word == "failing":
            words.take_end()
            return self.tell_failing()
        if word == "run":
            return self.tell_run(words)
        if word == "keep":
            return self.take_keeper(words)
        if word == "answer":
            return self.tell_answer(words)
        raise NoRow("no such word")

    def asked_program(self):
        """The program; refused where there is none."""
        if self.program is None:
            raise NoRow("no program")
        return self.program

    def asked_keeper(self):
        """The keeper; refused where there is none."""
        if self.keeper is None:
            raise NoRow("no keeper")
        return self.keeper

    def asked_function(self, words):
        """The name of a function of the program, by the next word."""
        f = words.take_one()
        if function_of(self.asked_program(), f) is None:
            raise NoRow("no such function")
        return f

    def shown_input(self, words, given):
        """A row of words and of an input of the keeper's function."""
        kinds = param_kinds(self.program, self.asked_for[0])
        return row_of_parts(words, flat_all(self.program, kinds, given))

    def take_program(self, rows):
        """Take a program in the place of the one ahead."""
        program = read(rows)
        right_program(program)
        self.program = program
        self.keeper = None
        self.asked_for = None
        return "ok"

    def tell_run(self, words):
        """How a run ends."""
        f = self.asked_function(words)
        ticks = number_between(words.take_one(), 0, MOST_TICKS)
        given = words.take_values(self.program, param_kinds(self.program, f))
        end = run(self.program, f, given, ticks)[0]
        if end[0] == "back":
            return row_of_parts(["back"], flat(self.program, function_of(self.program, f)[3], end[1]))
        if end[0] == "fails":
            return " ".join(["fails", end[1], str(end[2]), end[3]])
        return "dry"

    def take_keeper(self, words):
        """Take a keeper in the place of the one ahead."""
        f = self.asked_function(words)
        room = tuple([number_between(words.take_one(), -9, 126) for count in range(5)])
        if not is_room(room):
            raise NoRow("no room")
        ticks = number_between(words.take_one(), 0, MOST_TICKS)
        words.take_end()
        self.keeper = Keeper(self.program, f, room, ticks)
        self.asked_for = (f, room, ticks)
        told = [answer[0] for answer in self.keeper.answers().values()]
        met = told.count("met")
        left = told.count("never")
        return f"{met} met {left} never"

    def tell_answer(self, words):
        """The answer to a spot."""
        answers = self.asked_keeper().answers()
        asked = " ".join(words.words[words.place:])
        for spot in spots_of(self.program):
            if shown_spot(spot) == asked:
                answer = answers[spot]
                return self.shown_input(["met"], answer[1]) if answer[0] == "met" else "never"
        raise NoRow("no such spot")

    def tell_failing(self):
        """All whys with their least inputs."""
        self.asked_keeper()
        f = self.asked_for[0]
        told = []
        for g, k, word, given in failing(self.program, f, self.asked_for[1], self.asked_for[2]):
            told.append(self.shown_input([g, str(k), word], given))
        return one_behind_other(told)

    def take_change(self, rows):
        """Take a changed function."""
        keeper = self.asked_keeper()
        changed = read(rows)
        if len(changed[0]) > 0 or len(changed[1]) != 1:
            raise NoRow("not one function alone")
        told = keeper.change(changed[1][0])
        self.program = keeper.program_now()
        return one_behind_other([shown_spot(spot) for spot in told])
