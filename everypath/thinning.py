"""Sliced programs: what is left of a program if just the edges of a closed list are to be met as before."""

from everypath.graphs import check_edge
from everypath.programs import Program, check_program
from everypath.refusals import BadEdges
from everypath.rewriting import function_of
from everypath.slices import is_closed_list


def sliced(program, edge, edges):
    check_program(program)
    check_edge(program, edge)
    if not is_closed_list(program, edge, edges):
        raise BadEdges(edges)
    there = {tuple(part): True for part in edges}
    used = {part[0]: True for part in there}
    functions, kept = [], {}
    for f, params, _ in program.trees:
        if f in used or f == "main":
            kept[f] = kept_spots(f, program.spots[f], there)
            functions.append(function_of(f, params, statements_kept(kept[f])))
    thinner = Program(functions)
    moved = {}
    for f in kept:
        pairs = [*edge_pairs(kept[f], thinner.spots[f]), (len(program.edges[f]) - 1, len(thinner.edges[f]) - 1)]
        moved.update({(f, number): (f, other) for number, other in pairs if (f, number) in there})
    return thinner, moved


def kept_spots(f, spots, there):
    """The pairs (spot, lists of such pairs within it) of the statements that stay, for the edges that are there."""
    return [(spot, [kept_spots(f, inner, there) for inner in spot.inner])
            for spot in spots if stays(f, spot, there)]


def stays(f, spot, there):
    """Whether a statement stays: a return, and what has an edge, of an if or while one with when, that is there."""
    word = spot.statement[0]
    if word in ("if", "while"):
        # the first edge of a while goes to its head; the second one of both is one with when
        return (f, spot.numbers[1]) in there
    return word == "return" or (f, spot.numbers[0]) in there


def statements_kept(kept):
    """The statements of what stays."""
    found = []
    for spot, inner in kept:
        if inner:
            found.append((*spot.statement[:2], *[statements_kept(part) for part in inner]))
        else:
            found.append(spot.statement)
    return tuple(found)


def edge_pairs(kept, spots):
    """The pairs of numbers of edges that the same statements make, spots being those of what stays."""
    found = []
    for (spot, inner), other in zip(kept, spots):
        found.extend(list(zip(spot.numbers, other.numbers)))
        for part, others in zip(inner, other.inner):
            found.extend(edge_pairs(part, others))
    return found
