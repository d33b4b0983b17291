"""The graphs of functions: places, edges and assertions."""

from everypath.kinds import is_integer, is_list_of
from everypath.layouts import told_edge
from everypath.programs import check_function, check_program, is_function_of


def places(program, f):
    check_function(program, f)
    return program.places[f]


def edges(program, f):
    check_function(program, f)
    return [told_edge(edge) for edge in program.edges[f]]


def assertions(program):
    check_program(program)
    return [(name, number) for name in program.edges
            for number, edge in enumerate(program.edges[name]) if edge[2][0] == "assert"]


def is_assertion(program, thing):
    """Whether it is a pair of a function and the number of an edge with an assert."""
    if not is_list_of(thing, 2) or not is_function_of(program, thing[0]) or not is_integer(thing[1]):
        return False
    rows = program.edges[thing[0]]
    return 0 <= thing[1] < len(rows) and rows[thing[1]][2][0] == "assert"
