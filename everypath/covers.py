"""Covers: all paths within a bound of steps, with inputs that take them and refutations of all other sides."""

from everypath.branches import branch_at_first
from everypath.deciding import refutes
from everypath.gathering import gathered
from everypath.graphs import assertions
from everypath.kinds import are_integers, is_list_of
from everypath.plays import played_for
from everypath.programs import check_program
from everypath.runs import check_many, check_steps


def cover(program, steps, many):
    gathering = checked_gathering(program, steps, many)
    return None if gathering is None else gathering.told_cover()


def paths(program, steps, many):
    gathering = checked_gathering(program, steps, many)
    if gathering is None:
        return None
    return [(list(branch.trail.sides), branch.why_for(branch.grounds.inputs), list(branch.grounds.inputs))
            for branch in gathering.found]


def judged_cover(program, steps, thing):
    check_program(program)
    check_steps(steps)
    waiting = [(thing, branch_at_first(program, steps), None)]
    while waiting:
        part, branch, side = waiting.pop()
        grounds = None if side is None else branch.grounds_by(side)
        if side is not None and is_list_of(part, 2) and part[0] == "never":
            if not refutes(grounds.table, grounds.trees, {}, part[1]):
                return [*branch.trail.sides, side]
        else:
            here = branch if side is None else branch.gone_by(side, grounds)
            if not is_node_there(program, here, part):
                return list(here.trail.sides)
            if here.wants_side():
                waiting.extend([(part[2], here, 1), (part[1], here, 0)])
    return None


def closed_by(program, steps, many):
    gathering = checked_gathering(program, steps, many)
    if gathering is None:
        return None
    return all([branch.trail.why != ("going",) for branch in gathering.found])


def broken(program, steps, many):
    gathering = checked_gathering(program, steps, many)
    if gathering is None:
        return None
    found = {}
    for branch in gathering.found:
        if branch.trail.why[0] == "breaks" and branch.trail.why not in found:
            found[branch.trail.why] = branch.grounds.inputs
    places = [("breaks", f, number) for f, number in assertions(program)]
    return [(why[1:], list(found[why])) for why in places if why in found]


def checked_gathering(program, steps, many):
    """The gathering of all paths, None for too many, behind the refusals."""
    check_program(program)
    check_steps(steps)
    check_many(many)
    return gathered(program, steps, many)


def is_node_there(program, branch, thing):
    """Whether it is "sides" where a side is wanted, else a path whose inputs, one for each unknown, take its sides."""
    if branch.wants_side():
        return is_list_of(thing, 3) and thing[0] == "sides"
    if not is_list_of(thing, 2) or thing[0] != "path" or not are_integers(thing[1]):
        return False
    if len(thing[1]) != len(branch.trail.ranges):
        return False
    play = played_for(program, thing[1], branch.steps)
    return play.why[0] != "asks" and play.sides == branch.trail.sides
