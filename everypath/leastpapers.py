"""The least paper of a ladder and cuts, and what it is made by: what a paper wants, and what is pushed of it."""

from everypath.cuts import are_cuts
from everypath.errors import BadCuts
from everypath.ladders import check_ladder
from everypath.papers import check_paper, is_by_function
from everypath.programs import check_function, check_place, check_program
from everypath.pushing import Pushing
from everypath.trees import among
from everypath.zonemath import copied, join_zones


def wanted(program, paper):
    check_program(program)
    check_paper(program, paper)
    return pushed_once(program, None, paper)


def empty_paper(program, cuts):
    check_program(program)
    check_cuts(program, cuts)
    return paper_of_cuts(program, cuts)


def pushed(program, ladder, paper):
    check_program(program)
    check_ladder(ladder)
    check_paper(program, paper)
    return pushed_once(program, ladder, paper)


def least_paper(program, ladder, cuts):
    check_least(program, ladder, cuts)
    return settled(program, ladder, cuts).paper


def pushes(program, ladder, cuts):
    check_least(program, ladder, cuts)
    pushing = Pushing(program, paper_of_cuts(program, cuts), ladder)
    many = 0
    while pushing.push():
        many += 1
    return many


def place_zone(program, paper, f, place):
    check_program(program)
    check_paper(program, paper)
    check_function(program, f)
    check_place(program, f, place)
    if place == 1:
        return copied(paper[2][f])
    return joined_rows(paper[3][f][place])


def check_least(program, ladder, cuts):
    """The refusals of a program, a ladder and cuts."""
    check_program(program)
    check_ladder(ladder)
    check_cuts(program, cuts)


def check_cuts(program, cuts):
    """The refusal of what is no dict from just all functions to lists of unlike cuts."""
    if not is_by_function(program, cuts):
        raise BadCuts(cuts)
    if not all([are_cuts(cuts[f], among(program.names[f])) for f in program.params]):
        raise BadCuts(cuts)


def paper_of_cuts(program, cuts):
    """The empty paper with these cuts."""
    functions = list(program.params)
    return ({f: [(x, n) for x, n in cuts[f]] for f in functions}, {f: None for f in functions},
            {f: None for f in functions}, {f: [{} for _ in range(program.places[f])] for f in functions})


def pushed_once(program, ladder, paper):
    pushing = Pushing(program, paper, ladder)
    pushing.push()
    return pushing.paper


def settled(program, ladder, cuts):
    """The pushing that has come to the least paper, in whatever order: the same paper comes by all orders."""
    pushing = Pushing(program, paper_of_cuts(program, cuts), ladder)
    pushing.settle()
    return pushing


def joined_rows(rows):
    """The join of the zones of some rows, None if there are none."""
    zone = None
    for sides in rows:
        zone = join_zones(zone, rows[sides])
    return zone
