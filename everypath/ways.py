"""Ways through functions: which edges that set a name reach a place, and on which places a place hangs."""

from everypath.kinds import is_text
from everypath.programs import check_function, check_place
from everypath.refusals import BadVariable
from everypath.trees import names_read


def reaching(program, f, place, variable):
    check_function(program, f)
    check_place(program, f, place)
    if not is_text(variable) or variable not in program.names[f]:
        raise BadVariable(variable)
    return edges_reaching(program, f, place, variable)


def hanging(program, f, place):
    check_function(program, f)
    check_place(program, f, place)
    return places_hung_on(program, f, place)


def name_set(action):
    """The name that an action sets, None if it sets none."""
    return action[1] if action[0] in ("set", "any", "call") else None


def names_used(action):
    """The names that an action uses, ascending."""
    return names_read(action, "a")


def edges_reaching(program, f, place, name):
    """The numbers of the edges that set a name and from the end of which a way goes to the place without setting it."""
    before = places_before(program, f, [place], lambda edge: name_set(edge[2]) != name)
    return [number for number, edge in enumerate(program.edges[f]) if name_set(edge[2]) == name and edge[1] in before]


def places_hung_on(program, f, place):
    """The places with two edges by one of which all ways to place 1 go through the place, and not by the other one."""
    around = {}
    if place != 1:
        around = places_before(program, f, [1], lambda edge: edge[0] != place and edge[1] != place)
    found = []
    for start, numbers in enumerate(program.starts[f]):
        ends = [program.edges[f][number][1] in around for number in numbers]
        if len(ends) == 2 and ends[0] != ends[1]:
            found.append(start)
    return found


def places_before(program, f, goals, lets):
    """A dict of the places from which a way of edges that are let goes to one of the goals, these included."""
    found = {place: True for place in goals}
    edges_to = {}
    for edge in program.edges[f]:
        if lets(edge):
            edges_to.setdefault(edge[1], []).append(edge[0])
    waiting = list(goals)
    while waiting:
        for place in edges_to.get(waiting.pop(), []):
            if place not in found:
                found[place] = True
                waiting.append(place)
    return found
