"""The graphs of functions: places, edges and assertions; which functions call which."""

from everypath.kinds import is_list_of, is_number
from everypath.layouts import told_edge
from everypath.programs import check_function, check_program, is_function_of
from everypath.refusals import BadEdge


def places(program, f):
    check_function(program, f)
    return program.places[f]


def edges(program, f):
    check_function(program, f)
    return [told_edge(edge) for edge in program.edges[f]]


def assertions(program):
    check_program(program)
    return [(name, number) for name in program.edges
            for number, edge in enumerate(program.edges[name]) if edge[2][0] == "assert"]


def is_assertion(program, thing):
    """Whether it is a pair of a function and the number of an edge with an assert."""
    return is_edge(program, thing) and program.edges[thing[0]][thing[1]][2][0] == "assert"


def is_edge(program, thing):
    """Whether it is a pair of a function and the number of an edge of it."""
    if not is_list_of(thing, 2) or not is_function_of(program, thing[0]) or not is_number(thing[1]):
        return False
    return thing[1] < len(program.edges[thing[0]])


def is_any(program, thing):
    """Whether it is an edge with an any."""
    return is_edge(program, thing) and program.edges[thing[0]][thing[1]][2][0] == "any"


def check_edge(program, edge):
    if not is_edge(program, edge):
        raise BadEdge(edge)


def functions_reached(program):
    """For each function a dict of those that it calls, at once or through others."""
    called = {f: [edge[2][2] for edge in program.edges[f] if edge[2][0] == "call"] for f in program.edges}
    found = {}
    for f in called:
        found[f] = {}
        waiting = list(called[f])
        while waiting:
            g = waiting.pop()
            if g not in found[f]:
                found[f][g] = True
                waiting.extend(called[g])
    return found
