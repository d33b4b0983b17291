"""Even loops: what a round of them adds to each name."""

from everypath.evenloops import gains_of
from everypath.programs import check_function, check_place


def gains(program, f, place):
    check_function(program, f)
    check_place(program, f, place)
    loop = program.loops[f].get(place)
    return None if loop is None else gains_of(loop, program.names[f])
