"""Runs of programs: how they end, and the spots that they meet."""

from everyfork.programs import function_of, numbered, numbered_bodies, variable_kinds
from everyfork.reckoning import reckoned, truth_of
from everyfork.values import nought


class Frame:
    """A function under way: the values of its variables, and the lines that are next, the nearest last."""

    def __init__(self, program, function, given, target):
        self.function = function
        self.kinds = variable_kinds(function)
        self.held = {}
        for param, value in zip(function[1], given):
            self.held[param[0]] = value
        for pair in function[2]:
            self.held[pair[0]] = nought(program, pair[1])
        self.tasks = list(reversed(numbered(function[4], 0)))
        # The variable of the frame ahead that gets what this one gives.
        self.target = target


class Run:
    """A run under way. Its frames lie in a list, so calls may lie as deep as ticks go."""

    def __init__(self, program, f, given, ticks):
        self.program = program
        self.ticks = ticks
        self.frames = [Frame(program, function_of(program, f), given, None)]
        # A dict keeps each spot once, in the order in which it was met first.
        self.spots = {}
        self.end = None

    def step(self):
        """Go on by one line, or by the end of a body."""
        frame = self.frames[-1]
        if len(frame.tasks) == 0:
            self.give(nought(self.program, frame.function[3]))
        elif self.ticks == 0:
            self.end = ("dry",)
        else:
            self.ticks -= 1
            task = frame.tasks.pop()
            self.spots[("line", frame.function[0], task[0])] = True
            self.do(frame, task[0], task[1])

    def do(self, frame, k, statement):
        """Do the line k, which is met."""
        word = statement[0]
        if word in ("if", "while"):
            self.fork(frame, k, statement)
        elif word == "say":
            if not self.asked(frame, statement[2]):
                self.fail(frame, k, statement[1])
        elif word == "call":
            self.call(frame, k, statement)
        else:
            value = self.reckon(frame, statement[-1])
            if value is None:
                self.fail(frame, k, "range")
            elif word == "let":
                frame.held[statement[1]] = value
            else:
                self.give(value)

    def reckon(self, frame, e):
        """The value of an expression in a frame, or None where it breaks its line."""
        return reckoned(self.program, frame.kinds, frame.held, e)

    def asked(self, frame, c):
        """Whether a condition holds in a frame."""
        return truth_of(self.program, frame.kinds, frame.held, c)

    def fork(self, frame, k, statement):
        """Go into a body of an if or a while, or past it."""
        truth = self.asked(frame, statement[1])
        self.spots[("way", frame.function[0], k, truth)] = True
        bodies = numbered_bodies(k, statement)
        if statement[0] == "if":
            frame.tasks.extend(list(reversed(bodies[0] if truth else bodies[1])))
        elif truth:
            frame.tasks.append((k, statement))
            frame.tasks.extend(list(reversed(bodies[0])))

    def call(self, frame, k, statement):
        """Lay a new frame on top."""
        given = []
        for e in statement[3]:
            value = self.reckon(frame, e)
            if value is None:
                self.fail(frame, k, "range")
                return
            given.append(value)
        self.frames.append(Frame(self.program, function_of(self.program, statement[2]), given, statement[1]))

    def give(self, value):
        """End the frame on top, which gives a value."""
        frame = self.frames.pop()
        if len(self.frames) == 0:
            self.end = ("back", value)
        else:
            self.frames[-1].held[frame.target] = value

    def fail(self, frame, k, word):
        """End the run at the line k, which broke with a word."""
        self.spots[("breaks", frame.function[0], k, word)] = True
        self.end = ("fails", frame.function[0], k, word)


def run(program, f, values, ticks):
    """How a run of a function from values ends, and the spots that it meets, as they were met first."""
    under_way = Run(program, f, values, ticks)
    while under_way.end is None:
        under_way.step()
    return (under_way.end, list(under_way.spots))
