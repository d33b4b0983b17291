"""Slices: the edges on which hangs what an edge meets."""

from everypath.errors import BadOther
from everypath.graphs import check_edge, functions_reached, is_edge
from everypath.kinds import is_list
from everypath.programs import check_program
from everypath.ways import edges_reaching, names_used, places_hung_on


def is_closed(program, edge, thing):
    check_program(program)
    check_edge(program, edge)
    return is_closed_list(program, edge, thing)


def slice_of(program, edge):
    check_program(program)
    check_edge(program, edge)
    return sliced_edges(program, edge)


def chain(program, edge, other):
    check_program(program)
    check_edge(program, edge)
    if not is_edge(program, other):
        raise BadOther(other)
    came_from = found_from(program, edge)
    last = tuple(other)
    if last not in came_from:
        return None
    found = []
    while last is not None:
        found.append(last)
        last = came_from[last]
    return found[::-1]


class AskedEdges:
    """What edges ask for in a list that is closed for an edge.

    whens: for each function and edge the edges with when of what it stands in.
    """

    def __init__(self, program, edge):
        self.program = program
        self.edge = edge
        self.reached = functions_reached(program)
        self.whens = {f: whens_around(program, f) for f in program.edges}

    def asked_by(self, edge):
        """The edges that must be in the list if this one is."""
        f, number = edge
        place, _, action = self.program.edges[f][number]
        numbers = []
        for name in names_used(action):
            numbers.extend(edges_reaching(self.program, f, place, name))
        for start in places_hung_on(self.program, f, place):
            numbers.extend(self.program.starts[f][start])
        found = [(f, each) for each in [*numbers, *self.whens[f].get(number, [])]]
        if action[0] == "call":
            found.extend(self.returns_of(action[2]))
        if edge == self.edge or action[0] == "any":
            found.extend(self.calls_toward(f))
        return found

    def returns_of(self, f):
        return [(f, number) for number, edge in enumerate(self.program.edges[f]) if edge[2][0] == "return"]

    def calls_toward(self, f):
        """The edges with calls of functions that lead to f."""
        return [(g, number) for g in self.program.edges for number, edge in enumerate(self.program.edges[g])
                if edge[2][0] == "call" and (edge[2][2] == f or f in self.reached[edge[2][2]])]


def whens_around(program, f):
    """For each edge of a statement the edges with when of each if and while that this is or stands in, by numbers."""
    found = {}
    waiting = [(spot, []) for spot in program.spots[f]]
    while waiting:
        spot, around = waiting.pop()
        own = [number for number in spot.numbers if program.edges[f][number][2][0] == "when"]
        inner = [*around, *own]
        found.update({number: inner for number in spot.numbers})
        waiting.extend([(part, inner) for spots in spot.inner for part in spots])
    return found


def is_closed_list(program, edge, thing):
    """Whether it is a list of unlike edges that is closed for a right edge."""
    if not is_list(thing) or not all([is_edge(program, part) for part in thing]):
        return False
    there = {tuple(part): True for part in thing}
    if len(there) < len(thing) or tuple(edge) not in there:
        return False
    asked = AskedEdges(program, tuple(edge))
    return all([other in there for part in there for other in asked.asked_by(part)])


def sliced_edges(program, edge):
    """The least closed list, by functions in their order, then numbers."""
    found = found_from(program, edge)
    return [(f, number) for f in program.edges for number in range(len(program.edges[f])) if (f, number) in found]


def found_from(program, edge):
    """For each edge of the least closed list the one by which it is asked for with the fewest ones ahead of it."""
    first = tuple(edge)
    asked = AskedEdges(program, first)
    came_from = {first: None}
    waiting = [first]
    while waiting:
        coming = []
        for part in waiting:
            for other in asked.asked_by(part):
                if other not in came_from:
                    came_from[other] = part
                    coming.append(other)
        waiting = coming
    return came_from
