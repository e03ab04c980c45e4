"""A keeper of inputs and papers, over changes of its program."""

from everyfork.checker import lets_by
from everyfork.errors import NoEnd
from everyfork.going import never
from everyfork.programs import function_of, right_program, spots_of
from everyfork.rooms import in_room, inputs
from everyfork.running import run


def with_function(program, function):
    """A program with any plain thing as a function in the place of the one of its name, else behind all others."""
    functions = list(program[1])
    if isinstance(function, tuple) and len(function) > 0:
        for place, other in enumerate(program[1]):
            if other[0] == function[0]:
                functions[place] = function
                return (program[0], tuple(functions))
    return (program[0], tuple(functions + [function]))


def least_inputs(program, f, room, ticks):
    """A dict from all spots that runs of a room's inputs meet to the least input; refused where a run is dry."""
    told = {}
    for given in inputs(program, f, room):
        end = run(program, f, given, ticks)
        if end[0] == ("dry",):
            raise NoEnd(given)
        for spot in end[1]:
            told.setdefault(spot, given)
    return told


class Keeper:
    """Answers for each spot of a program: the least input that meets it, or a paper that claims it."""

    def __init__(self, program, f, room, ticks):
        right_program(program)
        self.program = program
        self.f = f
        self.room = room
        self.ticks = ticks
        self.told = {}
        self.seek(program, spots_of(program), {}, least_inputs(program, f, room, ticks))

    def seek(self, program, spots, holding, found):
        """Take over the answers that hold and seek those to all other spots; the list of these."""
        anew = [spot for spot in spots if spot not in holding]
        unmet = tuple([spot for spot in anew if spot not in found])
        paper = never(program, self.f, self.room, self.ticks, unmet) if len(unmet) > 0 else None
        told = {}
        for spot in spots:
            if spot in holding:
                told[spot] = holding[spot]
            else:
                told[spot] = ("met", found[spot]) if spot in found else ("never", paper)
        self.program = program
        self.told = told
        return anew

    def answers(self):
        """A dict from the spots of the program, in its order, to their answers."""
        return dict(self.told)

    def program_now(self):
        """The program of now."""
        return self.program

    def meets(self, program, given, spot):
        """Whether an input is one still, and its run meets a spot."""
        if not in_room(program, self.f, self.room, given):
            return False
        return spot in run(program, self.f, given, self.ticks)[1]

    def papers_that_hold(self, program):
        """The papers among the answers that a changed program lets by, its params being the same."""
        if function_of(program, self.f)[1] != function_of(self.program, self.f)[1]:
            return []
        papers = []
        for answer in self.told.values():
            if answer[0] == "never" and answer[1] not in papers:
                papers.append(answer[1])
        return [paper for paper in papers if lets_by(program, paper)]

    def holding(self, program, spots):
        """A dict from those of a changed program's spots whose answers hold to these."""
        papers = self.papers_that_hold(program)
        told = {}
        for spot in spots:
            answer = self.told.get(spot)
            if answer is not None:
                holds = answer[1] in papers if answer[0] == "never" else self.meets(program, answer[1], spot)
                if holds:
                    told[spot] = answer
        return told

    def change(self, function):
        """Take any plain thing as a function of the program; the spots that were sought anew."""
        program = with_function(self.program, function)
        right_program(program)
        found = least_inputs(program, self.f, self.room, self.ticks)
        spots = spots_of(program)
        return self.seek(program, spots, self.holding(program, spots), found)
