"""What is found among the inputs of a room: the least one for a spot, for each why, and one whose run is dry."""

from everyfork.rooms import inputs
from everyfork.running import run


def met_by(program, f, room, ticks, spot):
    """The least input of a room whose run meets a spot, or None."""
    for given in inputs(program, f, room):
        if spot in run(program, f, given, ticks)[1]:
            return given
    return None


def failing(program, f, room, ticks):
    """For each why that runs of a room's inputs fail (g, k, word, input), with the least such input, least first."""
    found = {}
    for given in inputs(program, f, room):
        end = run(program, f, given, ticks)[0]
        if end[0] == "fails":
            found.setdefault(end[1:], given)
    return [why + (given,) for why, given in found.items()]


def ends_all(program, f, room, ticks):
    """None where the runs of all inputs of a room end, else the least input whose run is dry."""
    for given in inputs(program, f, room):
        if run(program, f, given, ticks)[0] == ("dry",):
            return given
    return None
