"""Even loops: what a round of them adds to each name."""

from everypath.errors import BadPlace
from everypath.evenloops import gains_of
from everypath.kinds import is_integer
from everypath.programs import check_function


def gains(program, f, place):
    check_function(program, f)
    if not is_integer(place) or not 0 <= place < program.places[f]:
        raise BadPlace(place)
    loop = program.loops[f].get(place)
    return None if loop is None else gains_of(loop, program.names[f])
